import PyProof.Rows.All
import Wide.All
import OpenK.AllK
import Wide.FinOn
import Lean
import PyProof.EqAt
import PyProof.EqKinds
import PyProof.TupleCall
import PySem.Challenge.RW_rowsmith_k50_whole_longer_fronts_cost_no
import PyProof.TupleKey
import KE.KRevIter
import PyProof.ListRange
import PyProof.CollectIter
import PyProof.Rows.SortWalk
import PyProof.ListMulRoad
import PyProof.AutoListH
import PyProof.Rows.SortStr
import PyProof.FactsAll.tuple_2
import PyProof.TupleOfGen
import PyProof.EnumMake
import KE.KLam
import KE.KNestM
import PyProof.Rows.SortShellK
import KE.KDictSum
import PyProof.ExcInit
import PyProof.InstStoreFacts
import PyProof.RulesAs
import PyProof.NsDelKeeps
import PyProof.ExcBaseAll.ValueError
import PyProof.ExcArgsOwn
import KE.KIsAll
import PyProof.Rows.SumAny
import PyProof.Rows.SetFrom
set_option linter.all false
set_option maxRecDepth 100000
set_option maxHeartbeats 4000000
namespace PySem
open Sem (wp)
section
variable {prog:Program} {w:World} {K:Type} [DecidableEq K] (knd:KeyKind prog w K)
def cU (h:Heap) (x:List K × K) (a:Addr):Prop:=∃ o n b v,h.get? a=some o/\o.cls=.type "tuple"/\o.data=.seq #[.ref b,v] n/\IsTupleKey knd h x.1 b/\knd.is x.2 v=true
variable {knd}
theorem cU.typeIs {s:Shared} {x:List K × K} {a:Addr} (p:cU knd s.heap x a):s.TypeIs (.ref a) "tuple":=let ⟨o,_,_,_,ho,hc,_⟩:=p;⟨o,ho,hc⟩
theorem cU.inj {h:Heap} {a:Addr} {x y:List K × K} (hx:cU knd h x a) (hy:cU knd h y a):x=y:=by
 obtain ⟨o,n,b,v,ho,_,hd,h1,h2⟩:=hx
 obtain ⟨o',n',b',v',ho',_,hd',h1',h2'⟩:=hy
 obtain rfl:o=o':=Option.some.inj (ho.symm.trans ho')
 rw [hd] at hd'
 injection hd' with e _
 have e1:(.ref b:Value)=.ref b'/\v=v':=by simpa using e
 obtain ⟨e2,rfl⟩:=e1
 cases e2
 exact Prod.ext (h1.inj h1') (knd.inj _ _ _ h2 h2')
theorem cU.keeps {h h':Heap} {x:List K × K} {a d:Addr} {o:Obj} {es ep} (p:cU knd h x a) (ho:h.get? d=some o) (hd:o.data=.dict es ep) (hs:Heap.SameBut d h h'):cU knd h' x a:=by
 obtain ⟨o',n,b,v,ho',hc,hd',h1,h2⟩:=p
 have hne:a≠d:=by
  rintro rfl
  obtain rfl:o'=o:=Option.some.inj (ho'.symm.trans ho)
  rw [hd] at hd';exact nomatch hd'
 exact ⟨o',n,b,v,(hs.2 a hne).trans ho',hc,hd',h1.keeps ho hd hs,h2⟩
def qS (knd:KeyKind prog w K) (x:List K × K):Int:=reduceHash (Builtin.Tuple.tupleHashOf [tupleKeyHash knd x.1,knd.hash x.2])
variable {A:Around} {E:Value->Shared->Prop} {s:Shared}
theorem v8 {x:List K × K} {a:Addr} {Q:Int->Shared->Prop} (hu:A.units + 1 < cLine) (hk:cU knd s.heap x a) (h:Q (qS knd x) { s with toks:=s.toks + (x.1.length + 3) }) :
  wpAny (model prog w) A (pyHash (.ref a)) Q E s:=by
 have hT:=hk.typeIs
 obtain ⟨o,n,b,v,ho,_,hd,h1,h2⟩:=hk
 unfold pyHash
 first | unfold pyHashByItsType | skip
 first | refine wpAny_bind (wpAny_cRoomFor_or (.inr (by omega)) ?_) | skip
 refine wpAny_bind (wpAny_specialOf hT F.slot_tuple_hash.lookup ?_)
 show wpAny _ _ (if (some (Value.builtin "tuple.__hash__") == some Value.none)=true then _ else _) Q E s
 rw [if_neg (by rw [beq_builtin_none];exact Bool.false_ne_true)]
 refine wpAny_bind (wpAny_specialOf hT F.slot_tuple_hash.lookup ?_)
 show wpAny _ _ (callSpecialIfBoundUnlessNone? (.ref a) "__hash__" _ >>= _) Q E s
 refine wpAny_bind (wpAny_callSpecialIfBoundUnlessNone?_slot hT F.slot_tuple_hash (wpAny_call_entry F.slot_tuple_hash hT F.entry_tuple_hash ?_ (F.args_tuple_hash_1 _)))
 show wpAny _ _ (Builtin.Tuple.tupleItemsOf (.ref a) >>= _) _ _ s
 refine wpAny_bind (wpAny_tupleItemsOf ho hd ?_)
 refine wpAny_bind ?_
 rw [<- Array.forIn_toList]
 refine wpAny_forIn_list _
  (fun rest (r:Array Int) s'=>(rest=[.ref b,v]/\r.toList=[]/\s'=s)\/(rest=[v]/\r.toList=[tupleKeyHash knd x.1]/\s'={ s with toks:=s.toks + (x.1.length + 1) })\/(rest=[]/\r.toList=[tupleKeyHash knd x.1,knd.hash x.2]/\s'={ s with toks:=s.toks + (x.1.length + 1) + 1 }))
  _ ?_ ?_ _ _ (.inl ⟨rfl,rfl,rfl⟩)
 ·rintro y rest r s' (⟨hr,hb,rfl⟩ | ⟨hr,hb,rfl⟩ | ⟨hr,_⟩)
  ·cases hr
   refine wpAny_bind (wpAny_pyHash_tuple (by first | exact hu | (show A.units + 1 < cLine;exact hu)) h1 ?_)
   first
    | exact wpAny_pure (.inr (.inl ⟨rfl,by simp [hb],rfl⟩))
    | exact wpAny_bind (wpAny_pure (wpAny_pure (.inr (.inl ⟨rfl,by simp [hb],rfl⟩))))
  ·cases hr
   refine wpAny_bind (knd.pyHash h2 ?_)
   first
    | exact wpAny_pure (.inr (.inr ⟨rfl,by simp [hb],rfl⟩))
    | exact wpAny_bind (wpAny_pure (wpAny_pure (.inr (.inr ⟨rfl,by simp [hb],rfl⟩))))
  ·cases hr
 ·rintro r s' (⟨hr,_⟩ | ⟨hr,_⟩ | ⟨_,hb,rfl⟩)
  ·cases hr
  ·cases hr
  ·show wpAny _ _ (retInt (Builtin.Tuple.tupleHashOf r.toList)) _ _ _
   rw [hb]
   refine wpAny_ret_mkInt ?_
   show wpAny _ _ (if (decide (-(2:Int) ^ 63<=Builtin.Tuple.tupleHashOf [tupleKeyHash knd x.1,knd.hash x.2]) && decide (Builtin.Tuple.tupleHashOf [tupleKeyHash knd x.1,knd.hash x.2] < 2 ^ 63))=true then _ else _) Q E _
   unfold qS reduceHash at h
   by_cases hr:(decide (-(2:Int) ^ 63<=Builtin.Tuple.tupleHashOf [tupleKeyHash knd x.1,knd.hash x.2]) && decide (Builtin.Tuple.tupleHashOf [tupleKeyHash knd x.1,knd.hash x.2] < 2 ^ 63))=true
   ·rw [if_pos hr]
    rw [if_pos hr] at h
    exact wpAny_pure (by simpa [Nat.add_assoc] using h)
   ·rw [if_neg hr]
    rw [if_neg hr] at h
    exact wpAny_bind (wpAny_rule (wpAny_pure (by simpa [Nat.add_assoc] using h)))
theorem CA {x y:List K × K} {a b:Addr} {P:Fin->Shared->Prop} (hu:A.units < cLine) (hx:cU knd s.heap x a) (hy:cU knd s.heap y b) (h:P (.done (.ret (.bool (decide (x=y))))) s) :
  wpAny (model prog w) A (Builtin.«tuple.__eq__» ⟨[.ref a,.ref b],[]⟩) P E s:=by
 have hTb:=hy.typeIs
 obtain ⟨oa,na,a1,v1,hoa,_,hda,p1,q1⟩:=hx
 obtain ⟨ob,nb,a2,v2,hob,_,hdb,p2,q2⟩:=hy
 show wpAny _ _ (isInstance (.ref b) (.type "tuple") >>= _) _ _ s
 refine wpAny_bind (wpAny_isInstance hTb isSubtype_tuple_tuple ?_)
 simp only [Bool.not_true,Bool.false_eq_true,if_false]
 refine wpAny_bind (wpAny_tupleItemsOf hoa hda ?_)
 refine wpAny_bind (wpAny_tupleItemsOf hob hdb ?_)
 refine wpAny_bind ?_
 refine wpAny_forIn_list _
  (fun rest r s'=>r.1=none/\s'=s/\((rest=[(.ref a1,.ref a2),(v1,v2)])\/(rest=[(v1,v2)]/\x.1=y.1)\/(rest=[]/\x=y)))
  _ ?_ ?_ _ _ ⟨rfl,rfl,.inl rfl⟩
 ·rintro ⟨u,v⟩ rest r s' ⟨hr,rfl,hz | ⟨hz,e⟩ | ⟨hz,_⟩⟩
  ·cases hz
   refine wpAny_bind (wpAny_eqBool_tuple hu p1 p2 ?_)
   by_cases hk:x.1=y.1
   ·rw [decide_eq_true hk]
    simp only [Bool.not_true,Bool.false_eq_true,if_false]
    exact wpAny_pure ⟨rfl,rfl,by simp [hk]⟩
   ·rw [decide_eq_false hk]
    simp only [Bool.not_false,if_true]
    have hf:decide (x=y)=false:=decide_eq_false fun z=>hk (by rw [z])
    rw [hf] at h
    exact wpAny_bind (wpAny_pure (wpAny_pure (wpAny_pure h)))
  ·cases hz
   refine wpAny_bind (knd.eqBool (a:=x.2) (b:=y.2) q1 q2 ?_)
   by_cases hk:x.2=y.2
   ·rw [decide_eq_true hk]
    simp only [Bool.not_true,Bool.false_eq_true,if_false]
    exact wpAny_pure ⟨rfl,rfl,.inr (.inr ⟨trivial,Prod.ext e hk⟩)⟩
   ·rw [decide_eq_false hk]
    simp only [Bool.not_false,if_true]
    have hf:decide (x=y)=false:=decide_eq_false fun z=>hk (by rw [z])
    rw [hf] at h
    exact wpAny_bind (wpAny_pure (wpAny_pure (wpAny_pure h)))
  ·cases hz
 ·rintro ⟨r1,r2⟩ s' ⟨hr,rfl,hz | ⟨hz,_⟩ | ⟨_,e⟩⟩
  ·cases hz
  ·cases hz
  ·simp only at hr
   subst hr
   refine wpAny_pure ?_
   rw [decide_eq_true e] at h
   exact h
theorem wB {x y:List K × K} {a b:Addr} {Q:Bool->Shared->Prop} (hu:A.units + 1 < cLine) (hx:cU knd s.heap x a) (hy:cU knd s.heap y b) (h:Q (decide (x=y)) s) :
  wpAny (model prog w) A (eqBool (.ref a) (.ref b)) Q E s:=by
 unfold eqBool
 try with_reducible refine wpAny_holding ?_
 show wpAny _ _ (if (Value.ref a == Value.ref b)=true then _ else _) Q E s
 by_cases hab:(Value.ref a == Value.ref b)=true
 ·rw [if_pos hab]
  have e:a=b:=by have:=eq_of_beq hab;injection this
  subst e
  obtain rfl:=hx.inj hy
  exact wpAny_bind (wpAny_rule (wpAny_pure (by simpa using h)))
 ·rw [if_neg hab]
  exact wpAny_bind (wpAny_richCompare_same_room (op:=.Eq) hx.typeIs hy.typeIs F.slot_tuple_eq
   (wpAny_call_entry F.slot_tuple_eq hx.typeIs F.entry_tuple_eq (CA (by first | exact hu | (show A.units + 1 < cLine;exact hu)) hx hy ⟨_,rfl,(fun e=>nomatch e),wpAny_truthy_bool h⟩) (F.args_tuple_eq_2 _ _)) (by omega))
theorem sR {x:List K × K} {a:Addr} {Q:Bool->Shared->Prop} (hk:cU knd s.heap x a) (h:Q true s):wpAny (model prog w) A (eqIsQuiet 8 (.ref a)) Q E s:=by
 have hT:=hk.typeIs
 obtain ⟨o,n,b,v,ho,_,hd,h1,h2⟩:=hk
 have inner:∀ {Q:Bool->Shared->Prop},Q true s->wpAny (model prog w) A (eqIsQuiet 7 (.ref b)) Q E s:=by
  intro Q h
  have hT:=h1.typeIs
  obtain ⟨o,items,n,ho,_,hd,hi⟩:=h1
  unfold eqIsQuiet
  refine wpAny_bind (wpAny_specialOf hT F.slot_tuple_eq.lookup ?_)
  show wpAny _ _ (isInstance (.ref b) (.type "tuple") >>= _) _ _ s
  refine wpAny_bind (wpAny_isInstance hT isSubtype_tuple_tuple ?_)
  simp only [Bool.not_true,Bool.false_eq_true,if_false]
  refine wpAny_bind (wpAny_seqItems ho hd ?_)
  refine wpAny_bind ?_
  show wpAny _ _ (forIn items _ _) _ _ s
  rw [<- Array.forIn_toList]
  refine wpAny_forIn_list _ (fun rest r s'=>r.1=none/\s'=s/\∀ v∈rest,carriedByValue v=true) _ ?_ ?_ _ _ ⟨rfl,rfl,hi.byValue⟩
  ·rintro v rest r s' ⟨hr,rfl,hall⟩
   rw [eqIsQuiet_byValue _ (hall v List.mem_cons_self)]
   refine wpAny_bind (wpAny_pure ?_)
   simp only [Bool.not_true,Bool.false_eq_true,if_false]
   exact wpAny_pure ⟨rfl,rfl,fun u hu'=>hall u (List.mem_cons_of_mem _ hu')⟩
  ·rintro ⟨r1,r2⟩ s' ⟨hr,rfl,_⟩
   simp only at hr
   subst hr
   exact wpAny_pure h
 unfold eqIsQuiet
 refine wpAny_bind (wpAny_specialOf hT F.slot_tuple_eq.lookup ?_)
 show wpAny _ _ (isInstance (.ref a) (.type "tuple") >>= _) _ _ s
 refine wpAny_bind (wpAny_isInstance hT isSubtype_tuple_tuple ?_)
 simp only [Bool.not_true,Bool.false_eq_true,if_false]
 refine wpAny_bind (wpAny_seqItems ho hd ?_)
 refine wpAny_bind ?_
 show wpAny _ _ (forIn #[Value.ref b,v] _ _) _ _ s
 rw [<- Array.forIn_toList]
 refine wpAny_forIn_list _ (fun rest r s'=>r.1=none/\s'=s/\(rest=[.ref b,v]\/rest=[v]\/rest=[])) _ ?_ ?_ _ _ ⟨rfl,rfl,.inl rfl⟩
 ·rintro u rest r s' ⟨hr,rfl,hz | hz | hz⟩
  ·cases hz
   refine wpAny_bind (inner ?_)
   simp only [Bool.not_true,Bool.false_eq_true,if_false]
   exact wpAny_pure ⟨rfl,rfl,by simp⟩
  ·cases hz
   rw [eqIsQuiet_byValue _ (knd.byValue _ _ h2)]
   refine wpAny_bind (wpAny_pure ?_)
   simp only [Bool.not_true,Bool.false_eq_true,if_false]
   exact wpAny_pure ⟨rfl,rfl,by simp⟩
  ·cases hz
 ·rintro ⟨r1,r2⟩ s' ⟨hr,rfl,_⟩
  simp only at hr
  subst hr
  exact wpAny_pure h
end
def Lv {prog:Program} {w:World} {K:Type} [DecidableEq K] (knd:KeyKind prog w K):HeapKind prog w (List K × K) where
 is:=cU knd
 hash:=qS knd
 draws:=fun x=>x.1.length + 3
 room:=fun A=>A.units + 1 < cLine
 inj:=fun hx hy=>hx.inj hy
 keeps:=fun x ho hd hs=>x.keeps ho hd hs
 pyHash:=fun hu hk h=>v8 hu hk h
 eqBool:=fun hu hx hy h=>wB hu hx hy h
 quiet:=fun hk h=>sR hk h
end PySem
set_option Elab.async false
namespace L2
open PySem PySem.Spec PyProof.Rows
abbrev Key:=Sum Int Str
def vM:Key->Value->Bool
 | .inl k,v=>Value.isInt k v
 | .inr x,v=>Value.isStrOf x v
def RP (w:World):Key->Int
 | .inl k=>hashInt k
 | .inr x=>hashStr w x
theorem fD:∀ {k:Key} {v:Value},vM k v=true->(∃ i t,k=Sum.inl i/\v=Value.int i t)\/(∃ x t,k=Sum.inr x/\v=Value.str x t)
 | .inl i,v,h=>by
  obtain ⟨t,e⟩:=Value.isInt_shape (k:=i) (v:=v) h
  exact .inl ⟨i,t,rfl,e⟩
 | .inr x,v,h=>by
  obtain ⟨t,e⟩:=Value.isStrOf_shape (x:=x) (v:=v) h
  exact .inr ⟨x,t,rfl,e⟩
theorem Iw (i:Int) (t:Tok):vM (.inl i) (.int i t)=true:=by simp [vM,Value.isInt]
theorem IK (x:Str) (t:Tok):vM (.inr x) (.str x t)=true:=by simp [vM,Value.isStrOf]
theorem Qd (a b:Int):decide ((Sum.inl a:Key)=Sum.inl b)=(a == b):=by
 by_cases e:a=b
 ·subst e;simp
 ·have h:¬ (Sum.inl a:Key)=Sum.inl b:=fun q=>e (Sum.inl.inj q)
  rw [decide_eq_false h]
  exact (beq_eq_false_iff_ne.mpr e).symm
theorem ON (a b:Str):decide ((Sum.inr a:Key)=Sum.inr b)=decide (a=b):=by
 by_cases e:a=b
 ·subst e;simp
 ·have h:¬ (Sum.inr a:Key)=Sum.inr b:=fun q=>e (Sum.inr.inj q)
  rw [decide_eq_false h,decide_eq_false e]
theorem OY (a:Int) (b:Str):decide ((Sum.inl a:Key)=Sum.inr b)=false:=decide_eq_false (fun q=>nomatch q)
theorem Py (a:Str) (b:Int):decide ((Sum.inr a:Key)=Sum.inl b)=false:=decide_eq_false (fun q=>nomatch q)
def eV (prog:Program) (w:World):PySem.KeyKind prog w Key where
 is:=vM
 hash:=RP w
 inj:=fun v a b ha hb=>by
  rcases fD ha with ⟨i,t,rfl,rfl⟩ | ⟨x,t,rfl,rfl⟩
  ·rcases fD hb with ⟨j,u,rfl,e⟩ | ⟨y,u,rfl,e⟩
   ·injection e with e1 _;rw [e1]
   ·exact nomatch e
  ·rcases fD hb with ⟨j,u,rfl,e⟩ | ⟨y,u,rfl,e⟩
   ·exact nomatch e
   ·injection e with e1 _;rw [e1]
 byValue:=fun k v h=>by
  rcases fD h with ⟨i,t,rfl,rfl⟩ | ⟨x,t,rfl,rfl⟩ <;> rfl
 pyHash:=fun hv h=>by
  rcases fD hv with ⟨i,t,rfl,rfl⟩ | ⟨x,t,rfl,rfl⟩
  ·exact wpAny_pyHash_int h
  ·exact wpAny_pyHash_str h
 eqBool:=fun hu hv h=>by
  rcases fD hu with ⟨i,t,rfl,rfl⟩ | ⟨x,t,rfl,rfl⟩
  ·rcases fD hv with ⟨j,u,rfl,rfl⟩ | ⟨y,u,rfl,rfl⟩
   ·rw [Qd] at h;exact wpAny_eqBool_int h
   ·rw [OY] at h;exact SeqAt.EqAt.int_str i t y u _ _ _ _ h
  ·rcases fD hv with ⟨j,u,rfl,rfl⟩ | ⟨y,u,rfl,rfl⟩
   ·rw [Py] at h;exact SeqAt.EqAt.str_int x t j u _ _ _ _ h
   ·rw [ON] at h;exact wpAny_eqBool_str h
 «strs»:=fun k x t v h=>by
  rcases fD h with ⟨i,u,rfl,e⟩ | ⟨y,u,rfl,e⟩
  ·exact nomatch e
  ·injection e with e1 _
   subst e1
   cases v <;> rfl
theorem DR (prog:Program) (w:World) (i:Int) (t:Tok):(eV prog w).is (.inl i) (.int i t)=true:=Iw i t
theorem DP (prog:Program) (w:World) (x:Str) (t:Tok):(eV prog w).is (.inr x) (.str x t)=true:=IK x t
inductive V where
 | non | bl (b:Bool) | int (i:Int) | str (x:Str) | byt (b:Array UInt8) | flt (b:UInt64) | ref (a:Addr) | ty (n:String)
 deriving DecidableEq
def RelV:V->Value->Prop
 | .non,u=>u=Value.none
 | .bl b,u=>u=Value.bool b
 | .int i,u=>∃ t,u=Value.int i t
 | .str x,u=>∃ t,u=Value.str x t
 | .byt b,u=>∃ t,u=Value.bytes b t
 | .flt b,u=>∃ t,u=Value.float b t
 | .ref a,u=>u=Value.ref a
 | .ty n,u=>u=Value.type n
abbrev Vals:List V->List Value->Prop:=Paired RelV
theorem Vals.length {xs:List V} {us:List Value} (r:Vals xs us):xs.length=us.length:=Paired.length r
theorem Vals.get:∀ {xs:List V} {us:List Value} {i:Nat} {x:V},Vals xs us->xs[i]?=some x->∃ u,us[i]?=some u/\RelV x u
 | _,_,_,_,.nil,e=>by simp at e
 | _,_,0,_,.cons r _,e=>by simp at e;subst e;exact ⟨_,rfl,r⟩
 | _,_,i + 1,x,.cons _ t,e=>by
  obtain ⟨u,h1,h2⟩:=Vals.get (i:=i) (x:=x) t (by simpa using e)
  exact ⟨u,by simpa using h1,h2⟩
theorem Vals.set {x:V} {u:Value} (r:RelV x u):∀ {xs:List V} {us:List Value} (i:Nat),Vals xs us->Vals (xs.set i x) (us.set i u)
 | _,_,_,.nil=>.nil
 | _,_,0,.cons _ t=>.cons r t
 | _,_,i + 1,.cons q t=>.cons q (Vals.set r i t)
theorem Vals.append:∀ {xs ys:List V} {us ws:List Value},Vals xs us->Vals ys ws->Vals (xs++ys) (us++ws)
 | _,_,_,_,.nil,s=>s
 | _,_,_,_,.cons r t,s=>.cons r (Vals.append t s)
theorem Vals.take:∀ {xs:List V} {us:List Value} (n:Nat),Vals xs us->Vals (xs.take n) (us.take n)
 | _,_,0,_=>.nil
 | _,_,_ + 1,.nil=>.nil
 | _,_,n + 1,.cons r t=>.cons r (Vals.take n t)
theorem Vals.drop:∀ {xs:List V} {us:List Value} (n:Nat),Vals xs us->Vals (xs.drop n) (us.drop n)
 | _,_,0,r=>r
 | _,_,_ + 1,.nil=>.nil
 | _,_,n + 1,.cons _ t=>Vals.drop n t
def jR:Option V->Option Value->Prop
 | some v,some u=>RelV v u
 | none,none=>True
 | _,_=>False
def KV {κ:Type}:List (κ × V)->List (κ × Value)->Prop:=Paired fun (p:κ × V) (q:κ × Value)=>p.1=q.1/\RelV p.2 q.2
def kV:Key->V
 | .inl i=>.int i
 | .inr x=>.str x
inductive HO where
  | lst (xs:List V)
  | tup (xs:List V)
  | dK (kvs:List (Key × V)) | dT (kvs:List (List Key × V)) | dN (kvs:List ((List Key × Key) × V))
  | set (S:Int->Bool) (n:Nat)
  | ins (C dx:Addr) (fs:List (Str × V))
  | own (x:Addr)
  | xd (fs:List (Str × V))
  | met (f x:Addr)
  | rng (lo hi:Int)
  | frz (o:Obj) (u:HO)
  | tbl (ps:Array Value)
  | ext (φ:Heap->Prop)
abbrev Hp:=Addr->Option HO
def upd (H:Hp) (a:Addr) (o:HO):Hp:=fun b=>if b=a then some o else H b
theorem cE {H:Hp} {a:Addr} {o:HO}:upd H a o a=some o:=by unfold upd;rw [if_pos rfl]
theorem bL {H:Hp} {a b:Addr} {o:HO} (h:b≠a):upd H a o b=H b:=by unfold upd;rw [if_neg h]
theorem QZ {H:Hp} {a b:Addr} {o u:HO} (h:H a=some o) (h':H b=some u) (d:o≠u):a≠b:=by
 intro e;subst e;rw [h] at h';exact d (Option.some.inj h')
theorem cI {H:Hp} {a b:Addr} {o:HO} (h:H a=some o) (h':H b=none):a≠b:=by
 intro e;subst e;rw [h] at h';cases h'
def iO (h:Heap) (a:Addr) (items:Array Value):Prop:=∃ o,h.get? a=some o/\o.cls=.type "tuple"/\o.dict=none/\∃ n,o.data=.seq items n
theorem iO.tup {h:Heap} {a:Addr} {items:Array Value} (x:iO h a items):IsTup h a items:=let ⟨o,h1,h2,_,h3⟩:=x;⟨o,h1,h2,h3⟩
theorem iO.new (h:Heap) (items:Array Value):iO (h.push { cls:=.type "tuple",data:=.seq items }) h.objs.size items:=⟨_,Heap.get?_push_size _ rfl,rfl,rfl,_,rfl⟩
section
variable (P:Program) (w:World)
def dI (H:Hp) (h:Heap) (a:Addr):HO->Prop
 | .lst xs=>xs.length<=sizeLine/\∃ (its:List Value) (n:Nat),Vals xs its/\h.get? a=some { cls:=.type "list",data:=.seq its.toArray n }
 | .tup xs=>xs.length<=sizeLine/\∃ its:List Value,Vals xs its/\iO h a its.toArray
 | .dK kvs=>kvs.length<=sizeLine/\(a == sysModules)=false/\∃ vs,KV kvs vs/\h.DictOf (eV P w) a vs
 | .dT kvs=>kvs.length<=sizeLine/\(a == sysModules)=false/\∃ xs:List (List Key × Addr × Value),
   Paired (fun (p:List Key × V) (q:List Key × Addr × Value)=>p.1=q.1/\H q.2.1=some (.tup (p.1.map kV))/\RelV p.2 q.2.2) kvs xs /\
   ∃ o es ep,h.get? a=some o/\o.ExactDict/\o.data=.dict es ep/\es.toList=xs.map (entryOfKey (tupleKind (eV P w)))/\(xs.map (·.1)).Nodup
 | .dN kvs=>kvs.length<=sizeLine/\(a == sysModules)=false/\∃ xs:List ((List Key × Key) × Addr × Value),
   Paired (fun (p:(List Key × Key) × V) (q:(List Key × Key) × Addr × Value)=>p.1=q.1/\(∃ c,H q.2.1=some (.tup [.ref c,kV p.1.2])/\H c=some (.tup (p.1.1.map kV)))/\RelV p.2 q.2.2) kvs xs /\
   ∃ o es ep,h.get? a=some o/\o.ExactDict/\o.data=.dict es ep/\es.toList=xs.map (entryOfKey (Lv (eV P w)))/\(xs.map (·.1)).Nodup
 | .set S n=>h.SetOf (intKind P w) a S n
 | .ins C dx fs=>H dx=some (.own a)/\fs.length<=1000/\dx≠a/\h.get? a=some (PySem.W.instObj C dx) /\
   ∃ mA,h.Ns1 dx mA/\(∀ f,jR (fs.lookup f) (mA f))/\PySem.Within mA (fs.map (·.1))
 | .own _=>∃ o,h.get? a=some o
 | .xd fs=>∃ mA,h.Ns1 a mA/\∀ f,jR (fs.lookup f) (mA f)
 | .rng lo hi=>∃ t u v,h.get? a=some { cls:=.type "range",data:=.fields #[.int lo t,.int hi u,.int 1 v] }
 | .frz o u=>h.get? a=some o/\dI H h a u
 | .tbl ps=>h.get? a=some { cls:=.none,data:=.fields ps }
 | .met f x=>h.get? a=some (PySem.W.methodObj (.ref f) (.ref x))
 | .ext φ=>φ h/\(∃ o,h.get? a=some o)/\∀ h1 h2:Heap,φ h1->(∀ o,h1.get? a=some o->h2.get? a=some o)->φ h2
def fR (H:Hp) (h:Heap):Prop:=∀ a o,H a=some o->dI P w H h a o
end
section
variable {P:Program} {w:World} {H H':Hp} {h h':Heap} {a:Addr} {o:HO}
theorem dI.lt (x:dI P w H h a o):a < h.objs.size:=by
 cases o with
 | lst xs=>obtain ⟨_,_,_,_,e⟩:=x;exact Heap.lt_size e
 | tup xs=>obtain ⟨_,_,_,p⟩:=x;exact IsTup.lt (iO.tup p)
 | dK kvs=>obtain ⟨_,_,_,_,o,_,_,e,_⟩:=x;exact Heap.lt_size e
 | dT kvs=>obtain ⟨_,_,_,_,o,_,_,e,_⟩:=x;exact Heap.lt_size e
 | dN kvs=>obtain ⟨_,_,_,_,o,_,_,e,_⟩:=x;exact Heap.lt_size e
 | set S n=>obtain ⟨o,_,_,_,e,_⟩:=x;exact Heap.lt_size e
 | ins C dx fs=>obtain ⟨_,_,_,e,_⟩:=x;exact Heap.lt_size e
 | own y=>obtain ⟨_,e⟩:=x;exact Heap.lt_size e
 | xd fs=>obtain ⟨_,⟨_,_,_,e,_⟩,_⟩:=x;exact Heap.lt_size e
 | rng lo hi=>obtain ⟨_,_,_,e⟩:=x;exact Heap.lt_size e
 | frz ob u=>obtain ⟨e,_⟩:=x;exact Heap.lt_size e
 | tbl ps=>exact Heap.lt_size (show h.get? a=some _ from x)
 | met f y=>exact Heap.lt_size (show h.get? a=some _ from x)
 | ext φ=>obtain ⟨_,⟨_,e⟩,_⟩:=x;exact Heap.lt_size e
theorem Paired.mapP {α β:Type} {F G:α->β->Prop}:∀ {l₁:List α} {l₂:List β},Paired F l₁ l₂->(∀ a b,F a b->G a b)->Paired G l₁ l₂
 | _,_,.nil,_=>.nil
 | _,_,.cons r t,f=>.cons (f _ _ r) (Paired.mapP t f)
theorem dI.stay (x:dI P w H h a o) (k:∀ b u,(b=a\/H b=some (.own a))->h.get? b=some u->h'.get? b=some u)
  (ho:∀ b,H b=some (.own a)->H' b=some (.own a)) (ht:∀ b xs,H b=some (.tup xs)->H' b=some (.tup xs)):dI P w H' h' a o:=by
 induction o with
 | lst xs=>obtain ⟨z,its,n,r,e⟩:=x;exact ⟨z,its,n,r,k _ _ (.inl rfl) e⟩
 | tup xs=>obtain ⟨z,its,r,ob,e,c⟩:=x;exact ⟨z,its,r,ob,k _ _ (.inl rfl) e,c⟩
 | dK kvs=>obtain ⟨z,y,vs,r,ob,es,ep,e,c⟩:=x;exact ⟨z,y,vs,r,ob,es,ep,k _ _ (.inl rfl) e,c⟩
 | dT kvs =>
  obtain ⟨z,y,xs,r,ob,es,ep,e,c⟩:=x
  exact ⟨z,y,xs,Paired.mapP r fun p q z=>⟨z.1,ht _ _ z.2.1,z.2.2⟩,ob,es,ep,k _ _ (.inl rfl) e,c⟩
 | dN kvs =>
  obtain ⟨z,y,xs,r,ob,es,ep,e,c⟩:=x
  exact ⟨z,y,xs,Paired.mapP r fun p q z=>⟨z.1,let ⟨c,h1,h2⟩:=z.2.1;⟨c,ht _ _ h1,ht _ _ h2⟩,z.2.2⟩,ob,es,ep,k _ _ (.inl rfl) e,c⟩
 | set S n=>obtain ⟨ob,es,ep,t,e,c⟩:=x;exact ⟨ob,es,ep,t,k _ _ (.inl rfl) e,c⟩
 | ins C dx fs =>
  obtain ⟨d,z,ne,e,mA,⟨od,es,ep,e2,c⟩,r⟩:=x
  exact ⟨ho _ d,z,ne,k _ _ (.inl rfl) e,mA,⟨od,es,ep,k _ _ (.inr d) e2,c⟩,r⟩
 | own y=>obtain ⟨ob,e⟩:=x;exact ⟨ob,k _ _ (.inl rfl) e⟩
 | xd fs=>obtain ⟨mA,⟨od,es,ep,e,c⟩,r⟩:=x;exact ⟨mA,⟨od,es,ep,k _ _ (.inl rfl) e,c⟩,r⟩
 | rng lo hi=>obtain ⟨t,u,v,e⟩:=x;exact ⟨t,u,v,k _ _ (.inl rfl) e⟩
 | frz ob u ih=>obtain ⟨e,q⟩:=x;exact ⟨k _ _ (.inl rfl) e,ih q⟩
 | tbl ps =>
  have e:h.get? a=some { cls:=.none,data:=.fields ps }:=x
  show h'.get? a=some { cls:=.none,data:=.fields ps }
  exact k a _ (.inl rfl) e
 | met f y =>
  have e:h.get? a=some (PySem.W.methodObj (.ref f) (.ref y)):=x
  show h'.get? a=some (PySem.W.methodObj (.ref f) (.ref y))
  exact k a _ (.inl rfl) e
 | ext φ=>obtain ⟨p,⟨o,e⟩,st⟩:=x;exact ⟨st _ _ p fun o q=>k _ _ (.inl rfl) q,⟨o,k _ _ (.inl rfl) e⟩,st⟩
theorem fR.lt (x:fR P w H h) (e:H a=some o):a < h.objs.size:=(x a o e).lt
theorem fR.fresh (x:fR P w H h) (e:h.objs.size<=a):H a=none:=by
 cases q:H a with
 | none=>rfl
 | some u=>exact absurd (Nat.lt_of_lt_of_le (x.lt q) e) (Nat.lt_irrefl _)
theorem fR.kept (x:fR P w H h) (k:∀ b u,h.get? b=some u->h'.get? b=some u):fR P w H h':=fun a o e =>
 (x a o e).stay (fun b u _ q=>k b u q) (fun _ q=>q) fun _ _ q=>q
theorem fR.laid (x:fR P w H h) (k:∀ b u,h.get? b=some u->h'.get? b=some u) (hp:h.objs.size<=a) (new:dI P w (upd H a o) h' a o):fR P w (upd H a o) h':=fun b u e=>by
 have hn:=x.fresh hp
 by_cases hb:b=a
 ·subst hb;rw [cE] at e;cases e;exact new
 ·rw [bL hb] at e
  exact (x b u e).stay (fun c v _ q=>k c v q) (fun c q=>by rw [bL (cI q hn)];exact q) fun c xs q=>by rw [bL (cI q hn)];exact q
end
def Rd (H:Hp) (a:Addr) (u:HO):Prop:=H a=some u\/∃ o,H a=some (.frz o u)
theorem Rd.ok {P:Program} {w:World} {H:Hp} {h:Heap} {a:Addr} {u:HO} (r:Rd H a u) (x:fR P w H h):dI P w H h a u:=by
 rcases r with r | ⟨o,r⟩
 ·exact x a u r
 ·obtain ⟨_,q⟩:=x a _ r
  exact q
def IH:Option HO->Prop
 | some (.lst _)=>True
 | some (.dK _)=>True
 | some (.dT _)=>True
 | some (.dN _)=>True
 | some (.set _ _)=>True
 | some (.ins _ _ _)=>True
 | some (.ext _)=>True
 | _=>False
section
variable {P:Program} {w:World} {H:Hp} {h h':Heap} {x e:Addr} {o':HO}
theorem fR.write (ok:fR P w H h) (mu:IH (H x)) (he:e=x\/H e=some (.own x)) (k:∀ b u,b≠e->h.get? b=some u->h'.get? b=some u) (heo:∃ u,h'.get? e=some u)
  (new:dI P w (upd H x o') h' x o'):fR P w (upd H x o') h':=fun b u q=>by
 have nown:∀ c y,H c=some (.own y)->c≠x:=fun c y r z=>by subst z;rw [r] at mu;exact mu
 have ntup:∀ c xs,H c=some (.tup xs)->c≠x:=fun c xs r z=>by subst z;rw [r] at mu;exact mu
 by_cases hb:b=x
 ·subst hb;rw [cE] at q;cases q;exact new
 ·rw [bL hb] at q
  by_cases hbe:b=e
  ·have q':H b=some (.own x):=by
    rcases he with z | z
    ·exact absurd (hbe.trans z) hb
    ·rw [hbe];exact z
   rw [q] at q';cases q'
   obtain ⟨v,hv⟩:=heo
   exact ⟨v,by rw [hbe];exact hv⟩
  ·refine (ok b u q).stay (fun c v hc r=>k c v ?_ r) (fun c r=>by rw [bL (nown c b r)];exact r) fun c xs r=>by rw [bL (ntup c xs r)];exact r
   rcases hc with rfl | hc
   ·exact hbe
   ·rintro rfl
    rcases he with z | z
    ·exact nown c b hc z
    ·rw [hc] at z;cases z;exact hb rfl
end
structure Un (fs ex:List Addr) (H H':Hp) (h h':Heap):Prop where
 keep:∀ b o,h.get? b=some o->H b=none->b ∉ fs->b ∉ ex->h'.get? b=some o
 slot:∀ b o,h.get? b=some o->H b=none->b∈fs->b ∉ ex->∃ sl,h'.get? b=some { o with slots:=sl }
 free:∀ b o,h.get? b=some o->H b=none->b ∉ ex->H' b=none
 there:∀ b o,h.get? b=some o->b ∉ ex->∃ o',h'.get? b=some o'
 tups:∀ b xs,H b=some (.tup xs)->H' b=some (.tup xs)
 frzs:∀ b o u,H b=some (.frz o u)->H' b=some (.frz o u)
 tbls:∀ b ps,H b=some (.tbl ps)->∃ more,H' b=some (.tbl (ps++more))
section
variable {fs fs' ex ex':List Addr} {H H1 H2:Hp} {h h1 h2 h':Heap} {a x e:Addr} {o:HO}
theorem Un.any (u:Un fs ex H H1 h h1) {b:Addr} {ob:Obj} (q:h.get? b=some ob) (n:H b=none) (hx:b ∉ ex):∃ sl,h1.get? b=some { ob with slots:=sl }:=by
 by_cases hb:b∈fs
 ·exact u.slot b ob q n hb hx
 ·exact ⟨ob.slots,u.keep b ob q n hb hx⟩
theorem Un.kept (k:∀ b u,h.get? b=some u->h'.get? b=some u):Un fs ex H H h h' :=
 ⟨fun b ob q _ _ _=>k b ob q,fun b ob q _ _ _=>⟨ob.slots,k b ob q⟩,fun _ _ _ n _=>n,fun b ob q _=>⟨ob,k b ob q⟩,fun _ _ q=>q,fun _ _ _ q=>q,fun _ ps q=>⟨#[],by rw [q];simp⟩⟩
theorem Un.refl:Un fs ex H H h h:=Un.kept fun _ _ q=>q
theorem Un.laid (k:∀ b u,h.get? b=some u->h'.get? b=some u) (hp:h.objs.size<=a) (hn:H a=none):Un fs ex H (upd H a o) h h' where
 keep:=fun b u q _ _ _=>k b u q
 slot:=fun b u q _ _ _=>⟨u.slots,k b u q⟩
 free:=fun b u q n _=>by rw [bL (Nat.ne_of_lt (Nat.lt_of_lt_of_le (Heap.lt_size q) hp))];exact n
 there:=fun b u q _=>⟨u,k b u q⟩
 tups:=fun b xs q=>by rw [bL (cI q hn)];exact q
 frzs:=fun b u xs q=>by rw [bL (cI q hn)];exact q
 tbls:=fun b ps q=>⟨#[],by rw [bL (cI q hn),q];simp⟩
theorem Un.write (mu:IH (H x)) (he:e=x\/H e=some (.own x)) (k:∀ b u,b≠e->h.get? b=some u->h'.get? b=some u) (heo:∃ u,h'.get? e=some u):Un fs ex H (upd H x o) h h':=by
 have hx:∀ b,H b=none->b≠x:=fun b n z=>by subst z;rw [n] at mu;exact mu
 have hb:∀ b,H b=none->b≠e:=fun b n z=>by
  subst z
  rcases he with r | r
  ·exact hx b n r
  ·rw [n] at r;cases r
 have hm:∀ b u,H b=some u->¬ IH (some u)->b≠x:=fun b u q nm z=>by subst z;rw [q] at mu;exact nm mu
 refine ⟨fun b u q n _ _=>k b u (hb b n) q,fun b u q n _ _=>⟨u.slots,k b u (hb b n) q⟩,fun b u q n _=>by rw [bL (hx b n)];exact n,fun b u q _=>?_,
  fun b xs q=>by rw [bL (hm b _ q fun z=>z)];exact q,fun b u xs q=>by rw [bL (hm b _ q fun z=>z)];exact q,fun b ps q=>⟨#[],by rw [bL (hm b _ q fun z=>z),q];simp⟩⟩
 by_cases hbe:b=e
 ·subst hbe;exact heo
 ·exact ⟨u,k b u hbe q⟩
end
def Ml (h:Heap) (H:Hp):List Addr:=(List.range h.objs.size).filter fun a=>(H a).isSome
def fP (h:Heap) (H:Hp):Heap:=PySem.W.hideAll h (Ml h H)
theorem AU (h:Heap) (H:Hp):(fP h H).objs.size=h.objs.size:=PySem.W.hideAll_size _ _
theorem pP {h:Heap} {H:Hp} {b:Addr} {o:Obj} (e:h.get? b=some o) (n:H b=none):(fP h H).get? b=some o :=
 PySem.W.hideAll_get _ e fun hm=>by
  have q:(H b).isSome=true:=(List.mem_filter.mp hm).2
  rw [n] at q;simp at q
theorem AA {h:Heap} {H:Hp} {b:Addr} {o:Obj} (e:(fP h H).get? b=some o):h.get? b=some o/\H b=none:=by
 have e':h.get? b=some o:=PySem.W.of_hideAll (Ml h H) e
 refine ⟨e',?_⟩
 cases q:H b with
 | none=>rfl
 | some x =>
  have hm:b∈Ml h H:=List.mem_filter.mpr ⟨List.mem_range.mpr (Heap.lt_size e'),by simp [q]⟩
  have z:(fP h H).get? b=none:=PySem.W.hideAll_none (Ml h H) hm
  rw [z] at e;cases e
structure Mod (K:PySem.W.Frag) (mg:Str->Option Value) (base:Heap):Prop where
 kin:K.In base
 glob:base.Ns mainGlobals mg
 blt:∃ mb,base.Ns builtinsNs mb/\∀ x:Str,x≠"__name__"->mb x=bootBuiltins x
 nolimit:base.NoLimit
structure Cx where
 prog:Program
 w:World
 K:PySem.W.Frag
 mg:Str->Option Value
 base:Heap
 A:Around
 N:List Str
 s₀:Shared
 H₀:Hp
 env:Env
 outer:List Env
 stack:List Env
 ex:List Addr
 fn:Str->Bool
 calm:Bool
 pn:List (Addr × Obj)
 xe:Value->Shared->Prop
def iU (l:List Env):List Addr:=l.filterMap (·.frame)
abbrev Cx.fs (X:Cx):List Addr:=iU X.outer
def El (sc:Scope) (x:Str):Prop:=sc.names.lookup x=some .local\/sc.names.lookup x=some .cell\/sc.names.lookup x=some .free
def Loc (sc:Scope) (x:Str):Prop:=sc.names.lookup x=some .local\/sc.names.lookup x=some .cell
def Look (env:Env) (h:Heap) (m:Str->Option Value) (x:Str) (u:Value):Prop :=
 (env.kindOf x=some .local/\m x=some u)\/((env.kindOf x=some .cell\/env.kindOf x=some .free)/\∃ c,env.cells.lookup x=some c/\h.IsCell c (some u))
structure Cx.Ok (X:Cx):Prop where
 mod:Mod X.K X.mg X.base
 kind:X.env.scope.kind=.function
 glob:X.env.globals=mainGlobals
 blt:X.env.builtins=builtinsNs
 above:X.s₀.heap.objs.size<=X.env.locals
 inj:∀ x y c,X.env.cells.lookup x=some c->X.env.cells.lookup y=some c->x=y
 has:∀ x,(X.env.kindOf x=some .cell\/X.env.kindOf x=some .free)->∃ c,X.env.cells.lookup x=some c
 cab:∀ x c,X.fn x=true->X.env.cells.lookup x=some c->X.s₀.heap.objs.size<=c
 hd:X.calm=true->X.A.handled=none
 frames:X.A.frames=some X.stack
 stk:X.stack=X.outer\/(X.stack=X.env :: X.outer/\X.env.frame=some X.env.locals)
 exf:∀ b∈X.ex,b≠X.env.locals/\∀ x c,X.env.cells.lookup x=some c->c≠b
 bs:∀ b o,X.base.get? b=some o->X.s₀.heap.get? b=some o/\X.H₀ b=none
 bsz:X.base.objs.size<=X.s₀.heap.objs.size
 noex:∀ b o,X.base.get? b=some o->b ∉ X.ex
 exfs:∀ b∈X.ex,b ∉ X.fs
 funs:X.s₀.heap.FunFrames X.base X.outer
 frf:∀ b∈X.fs,X.H₀ b=none
structure Inv (X:Cx) (pins:List (Addr × Obj)) (σ:List (Option V)) (H:Hp) (s:Shared):Prop where
 ok:X.Ok
 os:s.os=X.s₀.os
 bare:AllBare s.gens
 base:Un X.fs X.ex X.H₀ H X.s₀.heap s.heap
 loc:∃ m,s.heap.Ns X.env.locals m/\∀ (i:Nat) (x:Str) (v:V),X.N[i]?=some x->σ[i]?=some (some v)->El X.env.scope x->∃ u,RelV v u/\Look X.env s.heap m x u
 cell:∀ x c,X.env.cells.lookup x=some c->∃ v,s.heap.IsCell c v
 free:H X.env.locals=none
 freeC:∀ x c,X.env.cells.lookup x=some c->H c=none
 pin:∀ p∈X.pn++pins,s.heap.get? p.1=some p.2/\H p.1=none/\p.1≠X.env.locals/\p.1 ∉ X.fs/\∀ v,p.2.data≠.cell v
 hok:fR X.prog X.w H s.heap
 len:σ.length=X.N.length
section
variable {X:Cx} {pins:List (Addr × Obj)} {σ:List (Option V)} {H H':Hp} {s:Shared} {h':Heap}
theorem Cx.Ok.nofr (ok:X.Ok) {b:Addr} {o:Obj} (e:X.base.get? b=some o):b ∉ X.fs:=fun hb=>by
 have:=(ok.funs.mem hb).1
 rw [e] at this;cases this
theorem Inv.bs (I:Inv X pins σ H s):∀ b o,X.base.get? b=some o->s.heap.get? b=some o/\H b=none:=fun b o e =>
 ⟨I.base.keep b o (I.ok.bs b o e).1 (I.ok.bs b o e).2 (I.ok.nofr e) (I.ok.noex b o e),I.base.free b o (I.ok.bs b o e).1 (I.ok.bs b o e).2 (I.ok.noex b o e)⟩
theorem Inv.bk (I:Inv X pins σ H s):∀ b o,X.base.get? b=some o->s.heap.get? b=some o:=fun b o e=>(I.bs b o e).1
theorem Inv.mod (I:Inv X pins σ H s):Mod X.K X.mg X.base:=I.ok.mod
theorem Inv.kIn (I:Inv X pins σ H s):X.K.In s.heap:=I.ok.mod.kin.keeps I.bk
theorem Inv.fr (I:Inv X pins σ H s):∃ m,Fr X.base X.env.locals s.heap m :=
 let ⟨m,hn,_⟩:=I.loc
 ⟨m,hn,I.bk,Nat.le_trans I.ok.bsz I.ok.above⟩
theorem Inv.lt (I:Inv X pins σ H s):X.env.locals < s.heap.objs.size:=let ⟨_,hn,_⟩:=I.loc;hn.lt
theorem Inv.sz (I:Inv X pins σ H s):X.s₀.heap.objs.size<=s.heap.objs.size:=Nat.le_trans I.ok.above (Nat.le_of_lt I.lt)
theorem Inv.nofs (I:Inv X pins σ H s) {a:Addr} (h:s.heap.objs.size<=a):a ∉ X.fs:=fun hb=>by
 obtain ⟨_,o,ho,_⟩:=I.ok.funs.mem hb
 exact absurd (Nat.lt_of_lt_of_le (Heap.lt_size ho) (Nat.le_trans I.sz h)) (Nat.lt_irrefl _)
theorem Inv.cne (I:Inv X pins σ H s):∀ x c,X.env.cells.lookup x=some c->c≠X.env.locals:=fun x c e z=>by
 obtain ⟨v,o,ho,hd⟩:=I.cell x c e
 obtain ⟨m,⟨o',es,ep,ho',hd',_⟩,_⟩:=I.loc
 rw [z,ho'] at ho;cases ho;rw [hd'] at hd;cases hd
theorem Inv.funs (I:Inv X pins σ H s):s.heap.FunFrames X.base X.outer:=by
 have all:∀ (l:List Env),(∀ b∈iU l,b∈X.fs)->X.s₀.heap.FunFrames X.base l->s.heap.FunFrames X.base l:=by
  intro l
  induction l with
  | nil=>intro _ _;trivial
  | cons env r ih =>
   intro hs hl
   obtain ⟨hk,⟨L,o,hf,hn,ho,hd⟩,hr⟩:=hl
   have hL:L∈X.fs:=hs L (by unfold iU;rw [List.filterMap_cons,hf];exact List.mem_cons_self)
   obtain ⟨sl,e⟩:=I.base.slot L o ho (I.ok.frf L hL) hL fun z=>I.ok.exfs L z hL
   exact ⟨hk,⟨L,_,hf,hn,e,hd⟩,ih (fun b hb=>hs b (by unfold iU;rw [List.filterMap_cons,hf];exact List.mem_cons_of_mem _ hb)) hr⟩
 exact all X.outer (fun _ hb=>hb) I.ok.funs
theorem Inv.stack (I:Inv X pins σ H s):s.heap.FunFrames X.base X.stack:=by
 rcases I.ok.stk with e | ⟨e,hf⟩
 ·rw [e];exact I.funs
 ·rw [e]
  obtain ⟨m,hn,_⟩:=I.loc
  refine .cons (by rw [I.ok.kind];decide) hf hn ?_ I.funs
  exact Heap.get?_none_of_le (Nat.le_trans I.ok.bsz I.ok.above)
theorem Inv.stkSub (I:Inv X pins σ H s):∀ b∈iU X.stack,b∈X.env.locals :: X.fs:=fun b hb=>by
 rcases I.ok.stk with e | ⟨e,hf⟩
 ·rw [e] at hb;exact List.mem_cons_of_mem _ hb
 ·rw [e] at hb
  unfold iU at hb
  rw [List.filterMap_cons,hf] at hb
  exact hb
theorem Inv.stkFree (I:Inv X pins σ H s):∀ b∈iU X.stack,H b=none:=fun b hb=>by
 rcases List.mem_cons.mp (I.stkSub b hb) with e | hb
 ·rw [e];exact I.free
 ·obtain ⟨_,o,ho,_⟩:=I.ok.funs.mem hb
  exact I.base.free b o ho (I.ok.frf b hb) fun z=>I.ok.exfs b z hb
theorem Inv.step {g':Array GenState} {t':Nat} {d':Drawn} {ch:List Addr} (I:Inv X pins σ H s)
  (hch:∀ b∈ch,(b∈X.ex\/X.s₀.heap.objs.size<=b)/\b≠X.env.locals/\(∀ x c,X.env.cells.lookup x=some c->c≠b)/\∀ p∈X.pn++pins,p.1≠b)
  (keep:∀ b o,b≠X.env.locals->b ∉ X.fs->b ∉ ch->s.heap.get? b=some o->H b=none->h'.get? b=some o)
  (slot:∀ b o,b≠X.env.locals->b∈X.fs->b ∉ ch->s.heap.get? b=some o->H b=none->∃ sl,h'.get? b=some { o with slots:=sl }) (free:∀ b o,b ∉ ch->s.heap.get? b=some o->H b=none->H' b=none)
  (there:∀ b o,b ∉ ch->s.heap.get? b=some o->∃ o',h'.get? b=some o')
  (tups:∀ b xs,H b=some (.tup xs)->H' b=some (.tup xs)) (frzs:∀ b o u,H b=some (.frz o u)->H' b=some (.frz o u)) (tbls:∀ b ps,H b=some (.tbl ps)->∃ more,H' b=some (.tbl (ps++more)))
  (ns:∀ m,s.heap.Ns X.env.locals m->h'.Ns X.env.locals m) (hok:fR X.prog X.w H' h') (hg:AllBare g') :
  Inv X pins σ H' { s with heap:=h',gens:=g',drawn:=d',toks:=t' }:=by
 have neL:∀ b o,X.s₀.heap.get? b=some o->b≠X.env.locals:=fun b o e=>Nat.ne_of_lt (Nat.lt_of_lt_of_le (Heap.lt_size e) I.ok.above)
 have neC:∀ b o,X.s₀.heap.get? b=some o->b ∉ X.ex->b ∉ ch:=fun b o e hx hb=>by
  rcases (hch b hb).1 with z | z
  ·exact hx z
  ·exact absurd (Nat.lt_of_lt_of_le (Heap.lt_size e) z) (Nat.lt_irrefl _)
 have cellK:∀ x c,X.env.cells.lookup x=some c->∀ v,s.heap.IsCell c v->h'.IsCell c v:=fun x c e v ⟨o,ho,hd⟩=>by
  have nch:c ∉ ch:=fun z=>(hch c z).2.2.1 x c e rfl
  by_cases hc:c∈X.fs
  ·obtain ⟨sl,q⟩:=slot c o (I.cne x c e) hc nch ho (I.freeC x c e)
   exact ⟨_,q,hd⟩
  ·exact ⟨o,keep c o (I.cne x c e) hc nch ho (I.freeC x c e),hd⟩
 refine ⟨I.ok,I.os,hg,⟨fun b o e n hb hx=>?_,fun b o e n hb hx=>?_,fun b o e n hx=>?_,fun b o e hx=>?_,fun b xs e=>tups b xs (I.base.tups b xs e),fun b o xs e=>frzs b o xs (I.base.frzs b o xs e),fun b ps e=>?_⟩,?_,fun x c e=>?_,?_,fun x c e=>?_,fun p hp=>?_,hok,I.len⟩
 ·exact keep b o (neL b o e) hb (neC b o e hx) (I.base.keep b o e n hb hx) (I.base.free b o e n hx)
 ·obtain ⟨sl,e1⟩:=I.base.slot b o e n hb hx
  obtain ⟨sl',e2⟩:=slot b _ (neL b o e) hb (neC b o e hx) e1 (I.base.free b o e n hx)
  exact ⟨sl',e2⟩
 ·obtain ⟨o',e1⟩:=I.base.there b o e hx
  exact free b o' (neC b o e hx) e1 (I.base.free b o e n hx)
 ·obtain ⟨o',e1⟩:=I.base.there b o e hx
  exact there b o' (neC b o e hx) e1
 ·obtain ⟨m1,e1⟩:=I.base.tbls b ps e
  obtain ⟨m2,e2⟩:=tbls b _ e1
  exact ⟨m1++m2,by rw [e2,Array.append_assoc]⟩
 ·obtain ⟨m,hn,hl⟩:=I.loc
  refine ⟨m,ns m hn,fun i x v e1 e2 e3=>?_⟩
  obtain ⟨u,r,l⟩:=hl i x v e1 e2 e3
  refine ⟨u,r,?_⟩
  rcases l with l | ⟨k,c,e,z⟩
  ·exact .inl l
  ·exact .inr ⟨k,c,e,cellK x c e _ z⟩
 ·obtain ⟨v,z⟩:=I.cell x c e
  exact ⟨v,cellK x c e v z⟩
 ·obtain ⟨m,⟨o,_,_,ho,_⟩,_⟩:=I.loc
  exact free _ o (fun z=>(hch _ z).2.1 rfl) ho I.free
 ·obtain ⟨v,o,ho,hd⟩:=I.cell x c e
  exact free c o (fun z=>(hch c z).2.2.1 x c e rfl) ho (I.freeC x c e)
 ·obtain ⟨e,n,ne,nf,d⟩:=I.pin p hp
  have nch:p.1 ∉ ch:=fun z=>(hch p.1 z).2.2.2 p hp rfl
  exact ⟨keep p.1 p.2 ne nf nch e n,free p.1 p.2 nch e n,ne,nf,d⟩
theorem Inv.un {t':Nat} (I:Inv X pins σ H s) (u:Un X.fs [] H H' s.heap h') (hok:fR X.prog X.w H' h'):Inv X pins σ H' { s with heap:=h',toks:=t' }:=by
 obtain ⟨m,⟨o,es,ep,ho,r⟩,_⟩:=id I.loc
 obtain ⟨sl,hL⟩:=u.any ho I.free (by simp)
 exact I.step (g':=s.gens) (d':=s.drawn) (ch:=[]) (fun _ z=>nomatch z) (fun b o _ hb _ e n=>u.keep b o e n hb (by simp)) (fun b o _ hb _ e n=>u.slot b o e n hb (by simp)) (fun b o _ e n=>u.free b o e n (by simp)) (fun b o _ e=>u.there b o e (by simp)) u.tups u.frzs u.tbls (fun m' hm=>by
  obtain ⟨o',es',ep',ho',r'⟩:=hm
  rw [ho] at ho';cases ho'
  exact ⟨_,es',ep',hL,r'⟩) hok I.bare
theorem Inv.call {g':Array GenState} {t':Nat} {d':Drawn} {ch:List Addr} (I:Inv X pins σ H s) (u:Un (iU X.stack) ch H H' s.heap h') (hok:fR X.prog X.w H' h') (hg:AllBare g')
  (hch:∀ b∈ch,(b∈X.ex\/X.s₀.heap.objs.size<=b)/\b≠X.env.locals/\(∀ x c,X.env.cells.lookup x=some c->c≠b)/\∀ p∈X.pn++pins,p.1≠b) :
  Inv X pins σ H' { s with heap:=h',gens:=g',drawn:=d',toks:=t' }:=by
 obtain ⟨m,⟨o,es,ep,ho,r⟩,_⟩:=id I.loc
 obtain ⟨sl,hL⟩:=u.any ho I.free fun z=>(hch _ z).2.1 rfl
 exact I.step (ch:=ch) hch (fun b o hL hb hc e n=>u.keep b o e n (fun z=>(List.mem_cons.mp (I.stkSub b z)).elim hL hb) hc) (fun b o _ _ hc e n=>u.any e n hc) (fun b o hc e n=>u.free b o e n hc) (fun b o hc e=>u.there b o e hc) u.tups u.frzs u.tbls (fun m' hm=>by
  obtain ⟨o',es',ep',ho',r'⟩:=hm
  rw [ho] at ho';cases ho'
  exact ⟨_,es',ep',hL,r'⟩) hok hg
theorem Inv.turned {t':Nat} {it:Addr} (I:Inv X pins σ H s) (k:∀ b o,b≠it->s.heap.get? b=some o->h'.get? b=some o) (hn:H it=none) (hL:it≠X.env.locals)
  (h1:it∈X.ex\/X.s₀.heap.objs.size<=it) (h2:∀ x c,X.env.cells.lookup x=some c->c≠it) (h3:∀ p∈X.pn++pins,p.1≠it):Inv X pins σ H { s with heap:=h',toks:=t' }:=by
 have nit:∀ b u,H b=some u->b≠it:=fun b u e z=>by rw [z,hn] at e;cases e
 refine I.step (g':=s.gens) (d':=s.drawn) (ch:=[it]) (fun b hb=>?_) (fun b o _ _ hc e _=>k b o (fun z=>hc (by simp [z])) e) (fun b o _ _ hc e _=>⟨o.slots,k b o (fun z=>hc (by simp [z])) e⟩) (fun _ _ _ _ n=>n)
  (fun b o hc e=>⟨o,k b o (fun z=>hc (by simp [z])) e⟩) (fun _ _ e=>e) (fun _ _ _ e=>e) (fun b ps e=>⟨#[],by rw [e];simp⟩) (fun m hm=>?_) (fun b u e=>?_) I.bare
 ·have e:b=it:=by simpa using hb
  subst e
  exact ⟨h1,hL,h2,h3⟩
 ·obtain ⟨o,es,ep,ho,r⟩:=hm
  exact ⟨o,es,ep,k _ o (Ne.symm hL) ho,r⟩
 ·refine (I.hok b u e).stay (fun c v hc q=>k c v ?_ q) (fun _ q=>q) fun _ _ q=>q
  rcases hc with z | z
  ·rw [z];exact nit b u e
  ·exact nit c _ z
theorem Inv.tok (I:Inv X pins σ H s) (t:Nat):Inv X pins σ H { s with toks:=t }:=I.un (h':=s.heap) (t':=t) Un.refl I.hok
theorem Inv.kept {t':Nat} (I:Inv X pins σ H s) (k:∀ b u,s.heap.get? b=some u->h'.get? b=some u):Inv X pins σ H { s with heap:=h',toks:=t' }:=I.un (Un.kept k) (I.hok.kept k)
theorem Inv.laid {a:Addr} {o:HO} {t':Nat} (I:Inv X pins σ H s) (k:∀ b u,s.heap.get? b=some u->h'.get? b=some u) (hp:s.heap.objs.size<=a) (new:dI X.prog X.w (upd H a o) h' a o) :
  Inv X pins σ (upd H a o) { s with heap:=h',toks:=t' }:=I.un (Un.laid k hp (I.hok.fresh hp)) (I.hok.laid k hp new)
theorem Inv.write {x e:Addr} {o:HO} {t':Nat} (I:Inv X pins σ H s) (mu:IH (H x)) (he:e=x\/H e=some (.own x)) (k:∀ b u,b≠e->s.heap.get? b=some u->h'.get? b=some u) (heo:∃ u,h'.get? e=some u)
  (new:dI X.prog X.w (upd H x o) h' x o):Inv X pins σ (upd H x o) { s with heap:=h',toks:=t' }:=I.un (Un.write mu he k heo) (I.hok.write mu he k heo new)
theorem Inv.weak {σ':List (Option V)} (I:Inv X pins σ H s) (hl:σ'.length=σ.length) (w:∀ (i:Nat) v,σ'[i]?=some (some v)->σ[i]?=some (some v)):Inv X pins σ' H s :=
 ⟨I.ok,I.os,I.bare,I.base,let ⟨m,hn,hl'⟩:=I.loc;⟨m,hn,fun i x v e1 e2 e3=>hl' i x v e1 (w i v e2) e3⟩,I.cell,I.free,I.freeC,I.pin,I.hok,hl.trans I.len⟩
theorem Inv.pins_of {pins':List (Addr × Obj)} (I:Inv X pins σ H s) (h:∀ p∈pins',s.heap.get? p.1=some p.2/\H p.1=none/\p.1≠X.env.locals/\p.1 ∉ X.fs/\∀ v,p.2.data≠.cell v):Inv X pins' σ H s :=
 ⟨I.ok,I.os,I.bare,I.base,I.loc,I.cell,I.free,I.freeC,fun p hp=>(List.mem_append.mp hp).elim (fun z=>I.pin p (List.mem_append_left _ z)) (h p),I.hok,I.len⟩
theorem B2 {N:List Str} (hN:N.Nodup) {i j:Nat} {x:Str} (a:N[i]?=some x) (b:N[j]?=some x):i=j:=by
 obtain ⟨h1,e1⟩:=List.getElem?_eq_some_iff.mp a
 obtain ⟨h2,e2⟩:=List.getElem?_eq_some_iff.mp b
 exact (List.getElem_inj hN).mp (e1.trans e2.symm)
theorem Bg {M:Model} {A:Around} {E:Value->Shared->Prop} {i:Nat} {x:Str} {v:V} {u:Value} {Q:Unit->Shared->Prop} (I:Inv X pins σ H s) (hN:X.N.Nodup) (hi:X.N[i]?=some x) (hx:Loc X.env.scope x) (r:RelV v u)
  (h:∀ s',Inv X pins (σ.set i (some v)) H s'->(∃ a,Heap.SameBut a s.heap s'.heap/\(a=X.env.locals\/X.env.cells.lookup x=some a))->Q () s') (hf:X.fn x=true\/X.env.scope.names.lookup x=some .local:=by first | exact .inl rfl | exact .inr rfl | assumption):wpAny M A (storeName X.env x u) Q E s:=by
 obtain ⟨m,hn,hl⟩:=id I.loc
 have hcls:(X.env.scope.kind == .class || (X.env.scope.kind == .module && X.env.locals != X.env.globals))=false:=by rw [I.ok.kind];rfl
 have hiσ:i < σ.length:=by rw [I.len];exact (List.getElem?_eq_some_iff.mp hi).1
 have cne:=I.cne
 have tracked:∀ {a:Addr} {h':Heap},(∃ o,s.heap.get? a=some o/\H a=none)->Heap.SameBut a s.heap h'->fR X.prog X.w H h':=fun {a h'} ha hs b ob e=>by
  obtain ⟨_,_,hfree⟩:=ha
  refine (I.hok b ob e).stay (fun c w' hc q=>(hs.2 c ?_).trans q) (fun _ q=>q) fun _ _ q=>q
  rintro rfl
  rcases hc with rfl | hc
  ·rw [hfree] at e;cases e
  ·rw [hfree] at hc;cases hc
 rcases hx with hk | hk
 ·refine wpAny_storeName_local hk hn (fun h' hn' hs=>?_) hcls
  obtain ⟨oL,_,_,hoL,_⟩:=id hn
  refine h _ ⟨I.ok,I.os,I.bare,⟨fun b o e n hb hx=>?_,fun b o e n hb hx=>?_,I.base.free,fun b o e hx=>?_,I.base.tups,I.base.frzs,I.base.tbls⟩,⟨_,hn',fun j y v' e1 e2 e3=>?_⟩,fun y c e=>?_,I.free,I.freeC,fun p hp=>?_,tracked ⟨oL,hoL,I.free⟩ hs,by simpa using I.len⟩ ⟨_,hs,.inl rfl⟩
  ·exact (hs.2 b (Nat.ne_of_lt (Nat.lt_of_lt_of_le (Heap.lt_size e) I.ok.above))).trans (I.base.keep b o e n hb hx)
  ·obtain ⟨sl,e1⟩:=I.base.slot b o e n hb hx
   exact ⟨sl,(hs.2 b (Nat.ne_of_lt (Nat.lt_of_lt_of_le (Heap.lt_size e) I.ok.above))).trans e1⟩
  ·obtain ⟨o',e1⟩:=I.base.there b o e hx
   exact ⟨o',(hs.2 b (Nat.ne_of_lt (Nat.lt_of_lt_of_le (Heap.lt_size e) I.ok.above))).trans e1⟩
  ·by_cases hj:j=i
   ·subst hj
    rw [hi] at e1;cases e1
    rw [List.getElem?_set_self hiσ] at e2
    cases e2
    exact ⟨u,r,.inl ⟨hk,by simp⟩⟩
   ·rw [List.getElem?_set_ne (Ne.symm hj)] at e2
    obtain ⟨u',r',q⟩:=hl j y v' e1 e2 e3
    refine ⟨u',r',?_⟩
    rcases q with ⟨k,e⟩ | ⟨k,c,e,z⟩
    ·refine .inl ⟨k,?_⟩
     have:y≠x:=fun e=>hj (B2 hN e1 (e ▸ hi))
     simp [this,e]
    ·exact .inr ⟨k,c,e,z.sameBut hs (cne y c e)⟩
  ·obtain ⟨w',z⟩:=I.cell y c e
   exact ⟨w',z.sameBut hs (cne y c e)⟩
  ·obtain ⟨e,n,ne,nf,d⟩:=I.pin p hp
   exact ⟨(hs.2 p.1 ne).trans e,n,ne,nf,d⟩
 ·have hfn:X.fn x=true:=by
   rcases hf with z | z
   ·exact z
   ·rw [z] at hk;cases hk
  obtain ⟨c,hc⟩:=I.ok.has x (.inl hk)
  obtain ⟨w',z⟩:=I.cell x c hc
  refine wpAny_storeName_cell I.ok.kind hk hc z (fun h' hc' hs=>?_)
  obtain ⟨oc,hoc,hocd⟩:=id z
  refine h { s with heap:=h' } ⟨I.ok,I.os,I.bare,⟨fun b o e n hb hx=>?_,fun b o e n hb hx=>?_,I.base.free,fun b o e hx=>?_,I.base.tups,I.base.frzs,I.base.tbls⟩,⟨m,hn.sameBut hs (Ne.symm (cne x c hc)),fun j y v' e1 e2 e3=>?_⟩,fun y c' e=>?_,I.free,I.freeC,fun p hp=>?_,tracked ⟨oc,hoc,I.freeC x c hc⟩ hs,by simpa using I.len⟩ ⟨c,hs,.inr hc⟩
  ·exact (hs.2 b (Nat.ne_of_lt (Nat.lt_of_lt_of_le (Heap.lt_size e) (I.ok.cab x c hfn hc)))).trans (I.base.keep b o e n hb hx)
  ·obtain ⟨sl,e1⟩:=I.base.slot b o e n hb hx
   exact ⟨sl,(hs.2 b (Nat.ne_of_lt (Nat.lt_of_lt_of_le (Heap.lt_size e) (I.ok.cab x c hfn hc)))).trans e1⟩
  ·obtain ⟨o',e1⟩:=I.base.there b o e hx
   exact ⟨o',(hs.2 b (Nat.ne_of_lt (Nat.lt_of_lt_of_le (Heap.lt_size e) (I.ok.cab x c hfn hc)))).trans e1⟩
  ·by_cases hj:j=i
   ·subst hj
    rw [hi] at e1;cases e1
    rw [List.getElem?_set_self hiσ] at e2
    cases e2
    exact ⟨u,r,.inr ⟨.inl hk,c,hc,hc'⟩⟩
   ·rw [List.getElem?_set_ne (Ne.symm hj)] at e2
    obtain ⟨u',r',q⟩:=hl j y v' e1 e2 e3
    refine ⟨u',r',?_⟩
    rcases q with q | ⟨k,c',e,z'⟩
    ·exact .inl q
    ·refine .inr ⟨k,c',e,z'.sameBut hs ?_⟩
     rintro rfl
     exact hj (B2 hN e1 (I.ok.inj _ _ _ e hc ▸ hi))
  ·by_cases hcc:c'=c
   ·subst hcc;exact ⟨_,hc'⟩
   ·obtain ⟨w2,z2⟩:=I.cell y c' e
    exact ⟨w2,z2.sameBut hs hcc⟩
  ·obtain ⟨e,n,ne,nf,d⟩:=I.pin p hp
   refine ⟨(hs.2 p.1 ?_).trans e,n,ne,nf,d⟩
   intro q
   rw [q,hoc] at e
   have q':oc=p.2:=Option.some.inj e
   exact d w' (by rw [<- q'];exact hocd)
theorem CZ {M:Model} {A:Around} {E:Value->Shared->Prop} {i:Nat} {x:Str} {v:V} {u:Value} {Q:Unit->Shared->Prop} (I:Inv X pins σ H s) (hN:X.N.Nodup) (hi:X.N[i]?=some x) (hx:Loc X.env.scope x) (r:RelV v u)
  (h:∀ s',Inv X pins (σ.set i (some v)) H s'->Q () s') (hf:X.fn x=true\/X.env.scope.names.lookup x=some .local:=by first | exact .inl rfl | exact .inr rfl | assumption):wpAny M A (storeName X.env x u) Q E s :=
 Bg I hN hi hx r (fun s' I' _=>h s' I') hf
theorem Inv.call' {s':Shared} {ch:List Addr} (I:Inv X pins σ H s) (ho:s'.os=s.os) (u:Un (iU X.stack) ch H H' s.heap s'.heap) (hok:fR X.prog X.w H' s'.heap) (hg:AllBare s'.gens)
  (hch:∀ b∈ch,(b∈X.ex\/X.s₀.heap.objs.size<=b)/\b≠X.env.locals/\(∀ x c,X.env.cells.lookup x=some c->c≠b)/\∀ p∈X.pn++pins,p.1≠b):Inv X pins σ H' s':=by
 obtain ⟨h',g',d',t',o'⟩:=s'
 have e:o'=s.os:=ho
 subst e
 exact I.call (g':=g') (t':=t') (d':=d') u hok hg hch
end
abbrev XK:=Value->Option Addr->Hp->Prop
abbrev St:=List (Option V)
abbrev VK:=V->Hp->Prop
abbrev TE:=St->Hp->VK->Prop
abbrev TT:=St->Hp->(Bool->Hp->Prop)->Prop
abbrev TA:=St->Hp->(List V->Hp->Prop)->Prop
structure Ends where
 nx:St->Hp->Prop
 rt:VK
 bk:St->Hp->Prop:=fun _ _=>False
 ct:St->Hp->Prop:=fun _ _=>False
abbrev TS:=Ends->St->Hp->Prop
def EP (X:Cx) (pins:List (Addr × Obj)) (σ:St) (Q:VK) (u:Value) (s':Shared):Prop:=∃ v H',Inv X pins σ H' s'/\RelV v u/\Q v H'
def TP (X:Cx) (pins:List (Addr × Obj)) (σ:St) (Q:Bool->Hp->Prop) (b:Bool) (s':Shared):Prop:=∃ H',Inv X pins σ H' s'/\Q b H'
def AP (X:Cx) (pins:List (Addr × Obj)) (σ:St) (Q:List V->Hp->Prop) (us:List Value) (s':Shared):Prop:=∃ vs H',Inv X pins σ H' s'/\Vals vs us/\Q vs H'
def SP (X:Cx) (pins:List (Addr × Obj)) (D:Ends) (f:Flow) (s':Shared):Prop :=
 match f with
 | .next=>∃ σ' H',Inv X pins σ' H' s'/\D.nx σ' H'
 | .brk=>∃ σ' H',Inv X pins σ' H' s'/\D.bk σ' H'
 | .cont=>∃ σ' H',Inv X pins σ' H' s'/\D.ct σ' H'
 | .ret u=>∃ v σ' H',Inv X pins σ' H' s'/\RelV v u/\D.rt v H'
def PE (X:Cx) (e:Expr) (t:TE):Prop :=
 ∀ (pins:List (Addr × Obj)) (s:Shared) (σ:St) (H:Hp) (Q:VK),Inv X pins σ H s->t σ H Q->wpAny (model X.prog X.w) X.A (eval e X.env) (EP X pins σ Q) X.xe s
def PT (X:Cx) (e:Expr) (t:TT):Prop :=
 ∀ (pins:List (Addr × Obj)) (s:Shared) (σ:St) (H:Hp) (Q:Bool->Hp->Prop),Inv X pins σ H s->t σ H Q->wpAny (model X.prog X.w) X.A (isTrue e X.env (eval e X.env)) (TP X pins σ Q) X.xe s
def PW (X:Cx) (e:Expr) (t:TT):Prop :=
 ∀ (whole:Sem Value) (pins:List (Addr × Obj)) (s:Shared) (σ:St) (H:Hp) (Q:Bool->Hp->Prop),Inv X pins σ H s->t σ H Q->wpAny (model X.prog X.w) X.A (isTrue e X.env whole) (TP X pins σ Q) X.xe s
theorem PW.pt {X:Cx} {e:Expr} {t:TT} (h:PW X e t):PT X e t:=h _
def PA (X:Cx) (es:List Expr) (t:TA):Prop :=
 ∀ (pos:Pos) (pins:List (Addr × Obj)) (s:Shared) (σ:St) (H:Hp) (Q:List V->Hp->Prop),Inv X pins σ H s->t σ H Q->wpAny (model X.prog X.w) X.A (spliced (backTo pos (starEach es X.env))) (AP X pins σ Q) X.xe s
def PS (X:Cx) (st:Stmt) (t:TS):Prop :=
 ∀ (pins:List (Addr × Obj)) (s:Shared) (σ:St) (H:Hp) (D:Ends),Inv X pins σ H s->t D σ H->wpAny (model X.prog X.w) X.A (exec st X.env) (SP X pins D) X.xe s
def qK (X:Cx) (st:List Stmt) (t:TS):Prop :=
 ∀ (pins:List (Addr × Obj)) (s:Shared) (σ:St) (H:Hp) (D:Ends),Inv X pins σ H s->t D σ H->wpAny (model X.prog X.w) X.A (execs st X.env) (SP X pins D) X.xe s
theorem bI {α:Type} {t:Sem α} {Q Q':α->Shared->Prop} {M:Model} {A:Around} {E:Value->Shared->Prop} {s:Shared} (h:wpAny M A t Q E s) (hQ:∀ a s,Q a s->Q' a s):wpAny M A t Q' E s:=wpAny_mono h hQ fun _ _ x=>x
section
variable {X:Cx}
theorem bin {a b:Expr} {ta tb:TE} (ha:PE X a ta) (hb:PE X b tb) {pins:List (Addr × Obj)} {s:Shared} {σ:St} {H:Hp} {R:V->V->Hp->Prop} (I:Inv X pins σ H s) (h:ta σ H fun x H1=>tb σ H1 fun y H2=>R x y H2)
  {α:Type} {Q:α->Shared->Prop} {f:Value->Value->Sem α}
  (hf:∀ v u s2 x y H2,Inv X pins σ H2 s2->RelV x v->RelV y u->R x y H2->wpAny (model X.prog X.w) X.A (f v u) Q X.xe s2) :
  wpAny (model X.prog X.w) X.A (eval a X.env) (fun v s₁=>wpAny (model X.prog X.w) X.A (eval b X.env) (fun u s₂=>wpAny (model X.prog X.w) X.A (f v u) Q X.xe s₂) X.xe s₁) X.xe s:=by
 refine bI (ha pins s σ H _ I h) fun v s1 ⟨x,H1,I1,r1,q1⟩=>?_
 refine bI (hb pins s1 σ H1 _ I1 q1) fun u s2 ⟨y,H2,I2,r2,q2⟩=>?_
 exact hf v u s2 x y H2 I2 r1 r2 q2
def K4 (i:Nat):TE:=fun σ H Q=>∃ v,σ[i]?=some (some v)/\Q v H
def tC (v:V):TE:=fun _ H Q=>Q v H
theorem Hq {i:Nat} {x:Str} {pos:Pos} (hN:X.N[i]?=some x) (hv:El X.env.scope x) (hd:(x == ("__debug__":Str))=false:=by decide) (hcd:(x == ("__classdict__":Str))=false:=by decide):PE X (.Name x pos) (K4 i):=by
 intro pins s σ H Q I h
 obtain ⟨v,e,h⟩:=h
 obtain ⟨m,hn,hl⟩:=I.loc
 obtain ⟨u,r,l⟩:=hl i x v hN e hv
 have fin:EP X pins σ Q u s:=⟨v,H,I,r,h⟩
 rcases l with ⟨hk,hm⟩ | ⟨hk,c,hc,hcell⟩
 ·exact wpAny_Name (wpAny_loadName_local I.ok.kind hk hn hm fin) hd
 ·rcases hk with hk | hk
  ·exact wpAny_Name (wpAny_loadName_cell I.ok.kind hk hc hcell fin) hd
  ·exact wpAny_Name (wpAny_loadName_free I.ok.kind hk hc hcell fin hcd) hd
theorem Pq {i j pos}:PE X (.Constant (.int i) j pos) (tC (.int i)):=fun _ _ _ H _ I h=>wpAny_Constant_int ⟨.int i,H,I.tok _,⟨_,rfl⟩,h⟩
theorem Q6 {b j pos}:PE X (.Constant (.bool b) j pos) (tC (.bl b)):=fun _ _ _ H _ I h=>Constant_bool ⟨.bl b,H,I,rfl,h⟩
theorem Qu {j pos}:PE X (.Constant .none j pos) (tC .non):=fun _ _ _ H _ I h=>Constant_none ⟨.non,H,I,rfl,h⟩
theorem Pu {x j pos}:PE X (.Constant (.str x) j pos) (tC (.str x)):=fun _ _ _ H _ I h=>Calls.Constant_str ⟨.str x,H,I.tok _,⟨_,rfl⟩,h⟩
def Gl (X:Cx) (x:Str):Prop:=X.env.kindOf x=some .globalImplicit
theorem vZ {E:Value->Shared->Prop} {pins:List (Addr × Obj)} {s:Shared} {σ:St} {H:Hp} {x:Str} {u:Value} {pos:Pos} {Q:Value->Shared->Prop} (I:Inv X pins σ H s) (hg:Gl X x) (hm:X.mg x=some u) (h:Q u s)
  (hd:(x == ("__debug__":Str))=false:=by decide):wpAny (model X.prog X.w) X.A (eval (.Name x pos) X.env) Q E s :=
 Calls.Name_function_global I.ok.kind hg (Calls.loadGlobal_global (by rw [I.ok.glob];exact I.mod.glob.keeps I.bk) hm h) hd
theorem rJ {E:Value->Shared->Prop} {pins:List (Addr × Obj)} {s:Shared} {σ:St} {H:Hp} {x:Str} {u:Value} {pos:Pos} {Q:Value->Shared->Prop} (I:Inv X pins σ H s) (hg:Gl X x) (hm:X.mg x=none) (hv:bootBuiltins x=some u) (h:Q u s)
  (hn:x≠"__name__":=by decide) (hd:(x == ("__debug__":Str))=false:=by decide):wpAny (model X.prog X.w) X.A (eval (.Name x pos) X.env) Q E s:=by
 obtain ⟨mb,h1,h2⟩:=I.mod.blt
 exact Calls.Name_function_global I.ok.kind hg (Calls.loadGlobal_builtin (by rw [I.ok.glob];exact I.mod.glob.keeps I.bk) hm (by rw [I.ok.blt];exact h1.keeps I.bk) ((h2 x hn).trans hv) h) hd
theorem My {x:Str} {v:V} {u:Value} {pos:Pos} (hg:Gl X x) (hm:X.mg x=some u) (r:RelV v u) (hd:(x == ("__debug__":Str))=false:=by decide):PE X (.Name x pos) (tC v) :=
 fun _ _ _ H _ I h=>vZ I hg hm ⟨v,H,I,r,h⟩ hd
def R9 (ta tb:TE) (k:Int->Int->Hp->Prop):St->Hp->Prop:=fun σ H=>ta σ H fun x H1=>tb σ H1 fun y H2=>∃ i j,x=.int i/\y=.int j/\k i j H2
variable {a b:Expr} {ta tb:TE} {pos:Pos}
def zZ (p:Int->Int->Bool) (ta tb:TE):TE:=fun σ H Q=>R9 ta tb (fun i j H2=>Q (.bl (p i j)) H2) σ H
abbrev SS:TE->TE->TE:=zZ fun i j=>decide (i < j)
abbrev SM:TE->TE->TE:=zZ fun i j=>decide (i<=j)
abbrev SI:TE->TE->TE:=zZ fun i j=>decide (j < i)
abbrev SN:TE->TE->TE:=zZ fun i j=>decide (j<=i)
abbrev SE:TE->TE->TE:=zZ fun i j=>decide (i=j)
abbrev SG:TE->TE->TE:=zZ fun i j=>!decide (i=j)
variable {tA tB':TT} {rest:List Expr}
def Pa (t u:TT):TT:=fun σ H Q=>t σ H fun c H1=>if c=true then u σ H1 Q else Q false H1
def RL (t u:TT):TT:=fun σ H Q=>t σ H fun c H1=>if c=true then Q true H1 else u σ H1 Q
def PL (t:TT):TT:=fun σ H Q=>t σ H fun c H1=>Q (!c) H1
theorem Oi (ha:PT X a tA):PW X (.BoolOp .And [a] pos) tA:=by
 intro wh pins s σ H Q I h
 refine isTrue_and (bI (ha pins s σ H Q I h) fun c s1 e=>?_)
 cases c with
 | true=>exact isTrue_and_nil e
 | false=>exact e
theorem PH (ha:PT X a tA):PW X (.BoolOp .Or [a] pos) tA:=by
 intro wh pins s σ H Q I h
 refine isTrue_or (bI (ha pins s σ H Q I h) fun c s1 e=>?_)
 cases c with
 | false=>exact isTrue_or_nil e
 | true=>exact e
theorem PQ (ha:PT X a tA) (hb:PW X (.BoolOp .And (b :: rest) pos) tB'):PW X (.BoolOp .And (a :: b :: rest) pos) (Pa tA tB'):=by
 intro wh pins s σ H Q I h
 refine isTrue_and (bI (ha pins s σ H _ I h) fun c s1 ⟨H1,I1,q1⟩=>?_)
 cases c with
 | true=>exact hb wh pins s1 σ H1 Q I1 q1
 | false=>exact ⟨H1,I1,q1⟩
theorem QS (ha:PT X a tA) (hb:PW X (.BoolOp .Or (b :: rest) pos) tB'):PW X (.BoolOp .Or (a :: b :: rest) pos) (RL tA tB'):=by
 intro wh pins s σ H Q I h
 refine isTrue_or (bI (ha pins s σ H _ I h) fun c s1 ⟨H1,I1,q1⟩=>?_)
 cases c with
 | true=>exact ⟨H1,I1,q1⟩
 | false=>exact hb wh pins s1 σ H1 Q I1 q1
theorem QE (ha:PT X a tA):PT X (.UnaryOp .Not a pos) (PL tA):=by
 intro pins s σ H Q I h
 exact isTrue_not (ha pins s σ H (fun c H1=>Q (!c) H1) I h)
def Mb (ta tb:TE):TE:=fun σ H Q=>ta σ H fun x H1=>∃ c,x=.bl c/\if c=true then tb σ H1 Q else Q (.bl false) H1
theorem Pf {op} {t:TE} (h:PE X a t):PE X (.BoolOp op [a] pos) t:=fun pins s σ H Q I hw=>BoolOp_one (h pins s σ H Q I hw)
theorem PZ (ha:PE X a ta) (hb:PE X (.BoolOp .And (b :: rest) pos) tb):PE X (.BoolOp .And (a :: b :: rest) pos) (Mb ta tb):=by
 intro pins s σ H Q I h
 refine BoolOp_and (bI (ha pins s σ H _ I h) fun v s1 ⟨x,H1,I1,r1,q1⟩=>?_)
 obtain ⟨c,rfl,q1⟩:=q1
 cases r1
 refine wpAny_truthy_bool ?_
 cases c with
 | true=>exact hb pins s1 σ H1 Q I1 q1
 | false=>exact ⟨.bl false,H1,I1,rfl,q1⟩
def RF (t:TT) (ta tb:TE):TE:=fun σ H Q=>t σ H fun c H1=>if c=true then ta σ H1 Q else tb σ H1 Q
theorem Ld {c:Expr} (hc:PT X c tA) (ha:PE X a ta) (hb:PE X b tb):PE X (.IfExp c a b pos) (RF tA ta tb):=by
 intro pins s σ H Q I h
 refine wpAny_IfExp (bI (hc pins s σ H _ I h) fun d s1 ⟨H1,I1,q1⟩=>?_)
 cases d with
 | true=>exact ha pins s1 σ H1 Q I1 q1
 | false=>exact hb pins s1 σ H1 Q I1 q1
end
def eC (K:PySem.W.Frag) (H:Hp) (a:Addr) (xs:List V):Prop :=
 Rd H a (.lst xs) \/
  ∃ (o:Obj) (its:Array Value) (n:Nat),K.lookup a=some o/\o.cls=.type "list"/\o.dict=none/\o.data=.seq its n/\its.size<=sizeLine/\Vals xs its.toList
def eP (K:PySem.W.Frag) (H:Hp) (a:Addr) (xs:List V):Prop :=
 Rd H a (.tup xs) \/
  ∃ (o:Obj) (its:Array Value) (n:Nat),K.lookup a=some o/\o.cls=.type "tuple"/\o.dict=none/\o.data=.seq its n/\its.size<=sizeLine/\Vals xs its.toList
def RX:Value->Option V
 | .none=>some .non
 | .bool b=>some (.bl b)
 | .int i _=>some (.int i)
 | .str x _=>some (.str x)
 | .bytes b _=>some (.byt b)
 | .float b _=>some (.flt b)
 | .ref a=>some (.ref a)
 | .type n=>some (.ty n)
 | _=>none
theorem RelV.abs {x:V} {u:Value} (r:RelV x u):RX u=some x:=by
 cases x with
 | non=>cases r;rfl
 | bl _=>cases r;rfl
 | int _=>obtain ⟨t,rfl⟩:=r;rfl
 | str _=>obtain ⟨t,rfl⟩:=r;rfl
 | byt _=>obtain ⟨t,rfl⟩:=r;rfl
 | flt _=>obtain ⟨t,rfl⟩:=r;rfl
 | ref _=>cases r;rfl
 | ty _=>cases r;rfl
theorem RelV.inj {x y:V} {u:Value} (r:RelV x u) (q:RelV y u):x=y:=Option.some.inj (r.abs.symm.trans q.abs)
theorem Vals.inj:∀ {xs ys:List V} {us:List Value},Vals xs us->Vals ys us->xs=ys
 | _,_,_,.nil,.nil=>rfl
 | _,_,_,.cons r t,.cons r' t'=>by rw [r.inj r',Vals.inj t t']
section
variable {X:Cx} {pins:List (Addr × Obj)} {σ:St} {H:Hp} {s:Shared} {a:Addr} {xs ys:List V}
theorem Inv.list (I:Inv X pins σ H s) (h:eC X.K H a xs):∃ its:List Value,Vals xs its/\PlainL s.heap a its.toArray/\xs.length<=sizeLine:=by
 rcases h with h | ⟨o,its,n,hk,hc,hd,hs,hz,r⟩
 ·obtain ⟨z,its,n,r,e⟩:=h.ok I.hok
  exact ⟨its,r,⟨_,n,e,rfl,rfl,rfl⟩,z⟩
 ·refine ⟨its.toList,r,⟨o,n,I.kIn a o hk,hc,hd,by simpa using hs⟩,?_⟩
  have e:=r.length
  simp only [Array.length_toList] at e
  omega
theorem Inv.tupleP (I:Inv X pins σ H s) (h:eP X.K H a xs):∃ its:List Value,Vals xs its/\iO s.heap a its.toArray/\xs.length<=sizeLine:=by
 rcases h with h | ⟨o,its,n,hk,hc,hd,hs,hz,r⟩
 ·obtain ⟨z,its,r,p⟩:=h.ok I.hok
  exact ⟨its,r,p,z⟩
 ·refine ⟨its.toList,r,⟨o,I.kIn a o hk,hc,hd,n,by simpa using hs⟩,?_⟩
  have e:=r.length
  simp only [Array.length_toList] at e
  omega
theorem Inv.tuple (I:Inv X pins σ H s) (h:eP X.K H a xs):∃ its:List Value,Vals xs its/\IsTup s.heap a its.toArray/\xs.length<=sizeLine:=by
 obtain ⟨its,r,p,z⟩:=I.tupleP h
 exact ⟨its,r,p.tup,z⟩
theorem Inv.list_inj (I:Inv X pins σ H s) (h:eC X.K H a xs) (h':eC X.K H a ys):xs=ys:=by
 obtain ⟨its,r,⟨o,n,e,_,_,d⟩,_⟩:=I.list h
 obtain ⟨its',r',⟨o',n',e',_,_,d'⟩,_⟩:=I.list h'
 rw [e] at e';cases e'
 rw [d] at d'
 injection d' with d1 _
 have:its=its':=by simpa using congrArg Array.toList d1
 subst this
 exact r.inj r'
theorem Inv.tuple_inj (I:Inv X pins σ H s) (h:eP X.K H a xs) (h':eP X.K H a ys):xs=ys:=by
 obtain ⟨its,r,⟨o,e,_,n,d⟩,_⟩:=I.tuple h
 obtain ⟨its',r',⟨o',e',_,n',d'⟩,_⟩:=I.tuple h'
 rw [e] at e';cases e'
 rw [d] at d'
 injection d' with d1 _
 have:its=its':=by simpa using congrArg Array.toList d1
 subst this
 exact r.inj r'
end
abbrev Cx.wish (X:Cx) (E:Value->Shared->Prop):Cx:={ X with xe:=E }
abbrev Cx.nox (X:Cx):Cx:=X.wish fun _ _=>False
theorem Cx.Ok.wish {X:Cx} (ok:X.Ok) (E:Value->Shared->Prop):(X.wish E).Ok :=
 ⟨ok.mod,ok.kind,ok.glob,ok.blt,ok.above,ok.inj,ok.has,ok.cab,ok.hd,ok.frames,ok.stk,ok.exf,ok.bs,ok.bsz,ok.noex,ok.exfs,ok.funs,ok.frf⟩
theorem Cx.Ok.unwish {X:Cx} {E:Value->Shared->Prop} (ok:(X.wish E).Ok):X.Ok :=
 ⟨ok.mod,ok.kind,ok.glob,ok.blt,ok.above,ok.inj,ok.has,ok.cab,ok.hd,ok.frames,ok.stk,ok.exf,ok.bs,ok.bsz,ok.noex,ok.exfs,ok.funs,ok.frf⟩
section
variable {X:Cx} {pins:List (Addr × Obj)} {σ:St} {H:Hp} {s:Shared} {E:Value->Shared->Prop}
theorem Inv.wish (I:Inv X pins σ H s) (E:Value->Shared->Prop):Inv (X.wish E) pins σ H s:=⟨I.ok.wish E,I.os,I.bare,I.base,I.loc,I.cell,I.free,I.freeC,I.pin,I.hok,I.len⟩
theorem Inv.unwish (I:Inv (X.wish E) pins σ H s):Inv X pins σ H s:=⟨I.ok.unwish,I.os,I.bare,I.base,I.loc,I.cell,I.free,I.freeC,I.pin,I.hok,I.len⟩
theorem SP.unwish {D:Ends} {f:Flow} {s':Shared} (h:SP (X.wish E) pins D f s'):SP X pins D f s':=by
 cases f with
 | next=>obtain ⟨σ',H',I,q⟩:=h;exact ⟨σ',H',I.unwish,q⟩
 | brk=>obtain ⟨σ',H',I,q⟩:=h;exact ⟨σ',H',I.unwish,q⟩
 | cont=>obtain ⟨σ',H',I,q⟩:=h;exact ⟨σ',H',I.unwish,q⟩
 | ret u=>obtain ⟨v,σ',H',I,r,q⟩:=h;exact ⟨v,σ',H',I.unwish,r,q⟩
theorem qK.nox {st:List Stmt} {t:TS} (h:qK X.nox st t):qK X st t:=fun pins s σ H D I hw =>
 wpAny_mono (h pins s σ H D (I.wish _) hw) (fun _ _ q=>q.unwish) fun _ _ z=>False.elim z
end
section
variable {X:Cx} {st:Stmt} {rest:List Stmt} {t u:TS} {e:Expr} {te:TE} {pos:Pos}
def Mv:TS:=fun D σ H=>D.nx σ H
def QB (t u:TS):TS:=fun D σ H=>t { D with nx:=u D } σ H
theorem MI:qK X [] Mv:=fun _ _ σ H _ I h=>wpAny_execs_nil ⟨σ,H,I,h⟩
theorem K3 (h1:PS X st t) (h2:qK X rest u):qK X (st :: rest) (QB t u):=by
 intro pins s σ H D I h
 refine wpAny_execs_cons (bI (h1 pins s σ H { D with nx:=u D } I h) fun f s1 q=>?_)
 cases f with
 | next =>
  obtain ⟨σ',H',I',q⟩:=q
  exact h2 pins s1 σ' H' D I' q
 | ret v=>exact q
 | brk=>exact q
 | cont=>exact q
theorem ML (h1:PS X st t):qK X [st] t:=by
 intro pins s σ H D I h
 refine wpAny_execs_cons (bI (h1 pins s σ H D I h) fun f s1 q=>?_)
 cases f with
 | next=>exact wpAny_execs_nil q
 | ret v=>exact q
 | brk=>exact q
 | cont=>exact q
theorem Inv.quiet {pins:List (Addr × Obj)} {σ:St} {H:Hp} {s:Shared} (I:Inv X pins σ H s):interactive X.env=false:=by simp [interactive,I.ok.kind]
def L6 (te:TE):TS:=fun D σ H=>te σ H fun _ H1=>D.nx σ H1
theorem Od (he:PE X e te) (hs:swapsWith e none pos.line X.env=pure false:=by rfl):PS X (.Expr e pos) (L6 te):=by
 intro pins s σ H D I h
 exact wpAny_Expr_any (bI (he pins s σ H _ I h) fun v s1 ⟨x,H1,I1,r1,q1⟩=>⟨σ,H1,I1,q1⟩) I.quiet hs
def Qg (te:TE):TS:=fun D σ H=>te σ H D.rt
theorem O3 (he:PE X e te):PS X (.Return (some e) pos) (Qg te):=by
 intro pins s σ H D I h
 exact wpAny_Return_some (bI (he pins s σ H _ I h) fun v s1 ⟨x,H1,I1,r1,q1⟩=>⟨x,σ,H1,I1,r1,q1⟩)
def QF (c:TT) (t u:TS):TS:=fun D σ H=>c σ H fun b H1=>if b=true then t D σ H1 else u D σ H1
theorem Rm {c:Expr} {a b:List Stmt} {tc:TT} (hc:PT X c tc) (ha:qK X a t) (hb:qK X b u):PS X (.If c a b pos) (QF tc t u):=by
 intro pins s σ H D I h
 refine wpAny_If (bI (hc pins s σ H _ I h) fun d s1 ⟨H1,I1,q1⟩=>?_)
 cases d with
 | true=>exact ha pins s1 σ H1 D I1 q1
 | false=>exact hb pins s1 σ H1 D I1 q1
end
abbrev TG:=V->St->Hp->(St->Hp->Prop)->Prop
abbrev pY:=List V->St->Hp->(St->Hp->Prop)->Prop
def PG (X:Cx) (target:Expr) (t:TG):Prop :=
 ∀ (pins:List (Addr × Obj)) (s:Shared) (σ:St) (H:Hp) (v:V) (u:Value) (Q:St->Hp->Prop),Inv X pins σ H s->RelV v u->t v σ H Q ->
  wpAny (model X.prog X.w) X.A (assign target X.env u) (fun _ s'=>∃ σ' H',Inv X pins σ' H' s'/\Q σ' H') X.xe s
def Je (X:Cx) (ts:List Expr) (t:pY):Prop :=
 ∀ (pins:List (Addr × Obj)) (s:Shared) (σ:St) (H:Hp) (vs:List V) (us:List Value) (Q:St->Hp->Prop),Inv X pins σ H s->Vals vs us->t vs σ H Q ->
  wpAny (model X.prog X.w) X.A (assignInOrder ((assignEach ts X.env).map (·.2)) us) (fun _ s'=>∃ σ' H',Inv X pins σ' H' s'/\Q σ' H') X.xe s
abbrev JX:=V->V->V->Hp->(Hp->Prop)->Prop
def OO (X:Cx) (t:JX):Prop :=
 ∀ (pins:List (Addr × Obj)) (s:Shared) (σ:St) (H:Hp) (o i v:V) (ov iv u:Value) (Q:Hp->Prop),Inv X pins σ H s->RelV o ov->RelV i iv->RelV v u->t o i v H Q ->
  wpAny (model X.prog X.w) X.A (setItem ov iv u) (fun _ s'=>∃ H',Inv X pins σ H' s'/\Q H') X.xe s
abbrev SV:=V->V->Hp->VK->Prop
section
variable {X:Cx} {pos:Pos}
def sT (i:Nat):TG:=fun v σ H Q=>Q (σ.set i (some v)) H
theorem Oc {i:Nat} {x:Str} (hN:X.N.Nodup) (hi:X.N[i]?=some x) (hx:Loc X.env.scope x) (hf:X.fn x=true\/X.env.scope.names.lookup x=some .local:=by first | exact .inl rfl | exact .inr rfl | assumption):PG X (.Name x pos) (sT i):=by
 intro pins s σ H v u Q I r h
 exact wpAny_assign_Name (CZ I hN hi hx r (fun s' I'=>⟨_,H,I',h⟩) hf)
def B6:pY:=fun vs σ H Q=>vs=[]/\Q σ H
def xU (t:TG) (u:pY):pY:=fun vs σ H Q=>∃ v r,vs=v :: r/\t v σ H fun σ' H'=>u r σ' H' Q
theorem Nu:Je X [] B6:=by
 intro pins s σ H vs us Q I r h
 obtain ⟨e,h⟩:=h
 subst e
 cases r
 exact assignInOrder_nil ⟨σ,H,I,h⟩
theorem JD {e:Expr} {es:List Expr} {t:TG} {u:pY} (h1:PG X e t) (h2:Je X es u)
  (hs:(assignEach (e :: es) X.env).map (·.2)=assign e X.env :: (assignEach es X.env).map (·.2):=by rfl):Je X (e :: es) (xU t u):=by
 intro pins s σ H vs us Q I r h
 obtain ⟨v,vr,e1,h⟩:=h
 subst e1
 cases r with
 | cons r rr =>
  rw [hs]
  refine assignInOrder_cons (bI (h1 pins s σ H _ _ _ I r h) fun _ s1 ⟨σ1,H1,I1,q1⟩=>?_)
  exact h2 pins s1 σ1 H1 _ _ Q I1 rr q1
def Ci (K:PySem.W.Frag) (n:Nat) (t:pY):TG:=fun v σ H Q=>∃ a xs,v=.ref a/\eP K H a xs/\xs.length=n/\t xs σ H Q
theorem Qr {es:List Expr} {k:Nat} {t:pY} {n:Nat} (hc:X.calm=true) (h:Je X es t)
  (hn:(assignEach es X.env).length=n:=by rfl) (hst:(assignEach es X.env).findIdx? (·.1)=none:=by rfl):PG X (.Tuple es k pos) (Ci X.K n t):=by
 intro pins s σ H v u Q I r hw
 obtain ⟨a,xs,e1,hq,hl,hw⟩:=hw
 subst e1
 cases r
 obtain ⟨its,rv,ht,hz⟩:=I.tuple hq
 refine assign_Tuple_tuple (I.ok.hd hc) ht (by simp [hn,<- hl,rv.length]) hst fun h' hx=>?_
 have I1:Inv X pins σ H { s with heap:=h' }:=I.kept (t':=s.toks) fun b o e=>hx b o (Nat.ne_of_lt (Heap.lt_size e)) e
 exact h pins _ σ H xs _ Q I1 (by simpa using rv) hw
def RU (to ti:TE) (t:JX):TG:=fun v σ H Q=>to σ H fun o H1=>ti σ H1 fun i H2=>t o i v H2 fun H3=>Q σ H3
theorem O5 {o i:Expr} {to ti:TE} {t:JX} (ho:PE X o to) (hi:PE X i ti) (hs:OO X t)
  (ha:∀ v,assign (.Subscript o i pos) X.env v=(do
   let ov <- holding [v] (eval o X.env)
   let iv <- holding [v,ov] (eval i X.env)
   standAt pos
   holding [v,ov,iv] (setItem ov iv v)
   release [v,ov,iv] []):=by intro _;rfl):PG X (.Subscript o i pos) (RU to ti t):=by
 intro pins s σ H v u Q I r h
 rw [ha]
 refine wpAny_bind (wpAny_holding (bI (ho pins s σ H _ I h) fun ov s1 ⟨x,H1,I1,r1,q1⟩=>?_))
 refine wpAny_bind (wpAny_holding (bI (hi pins s1 σ H1 _ I1 q1) fun iv s2 ⟨y,H2,I2,r2,q2⟩=>?_))
 refine wpAny_bind (wpAny_standAt (wpAny_bind (wpAny_holding (bI (hs pins s2 σ H2 x y v ov iv u _ I2 r1 r2 r q2) fun _ s3 ⟨H3,I3,q3⟩=>?_))))
 exact wpAny_release ⟨σ,H3,I3,q3⟩
def Fn (te:TE) (g:TG):TS:=fun D σ H=>te σ H fun x H1=>g x σ H1 D.nx
theorem P6 {tg e:Expr} {te:TE} {g:TG} (he:PE X e te) (hg:PG X tg g) (hs:swapsWithSole [tg] e pos.line X.env=pure false:=by rfl) (hw:swappedStores [tg] e X.env=pure none:=by rfl)
  (h1:(assignEach [tg] X.env).map (·.2)=[assign tg X.env]:=by rfl):PS X (.Assign [tg] e pos) (Fn te g):=by
 intro pins s σ H D I h
 refine wpAny_Assign_stores (bI (he pins s σ H _ I h) fun v s1 ⟨x,H1,I1,r1,q1⟩=>?_) hs hw
 rw [h1]
 exact bI (hg pins s1 σ H1 x v _ I1 r1 q1) fun _ s2 q=>q
theorem Pc {i:Nat} {x:Str} {e:Expr} {te:TE} {pos':Pos} (hN:X.N.Nodup) (hi:X.N[i]?=some x) (hx:Loc X.env.scope x) (he:PE X e te) (hs:swapsWith e (some (.Name x pos')) pos.line X.env=pure false:=by rfl) (hf:X.fn x=true\/X.env.scope.names.lookup x=some .local:=by first | exact .inl rfl | exact .inr rfl | assumption) :
  PS X (.Assign [.Name x pos'] e pos) (Fn te (sT i)):=by
 intro pins s σ H D I h
 refine wpAny_Assign_Name (bI (he pins s σ H _ I h) fun v s1 ⟨y,H1,I1,r1,q1⟩=>?_) hs
 exact CZ I1 hN hi hx r1 (fun s2 I2=>⟨_,H1,I2,q1⟩) hf
end
section
variable {X:Cx} {pos:Pos}
end
structure It where
 go:Nat->Hp->Prop
 yld:Nat->Hp->V->Hp->Prop
 stop:Nat->Hp->Prop
def sZ (X:Cx) (pins:List (Addr × Obj)) (H:Hp) (b:Addr):Prop :=
 H b=none/\b≠X.env.locals/\b ∉ X.fs/\(b∈X.ex\/X.s₀.heap.objs.size<=b)/\(∀ x c,X.env.cells.lookup x=some c->c≠b)/\∀ p∈X.pn++pins,p.1≠b
theorem Inv.fpOk {X:Cx} {pins:List (Addr × Obj)} {σ:St} {H H':Hp} {s:Shared} {b:Addr} (I:Inv X pins σ H s) (hb:s.heap.objs.size<=b) (hn:H' b=none):sZ X pins H' b:=by
 refine ⟨hn,Nat.ne_of_gt (Nat.lt_of_lt_of_le I.lt hb),I.nofs hb,.inr (Nat.le_trans I.sz hb),fun x c e z=>?_,fun p hp z=>?_⟩
 ·obtain ⟨v,q⟩:=I.cell x c e
  exact absurd (Nat.lt_of_lt_of_le q.lt (by rw [z];exact hb)) (Nat.lt_irrefl _)
 ·exact absurd (Nat.lt_of_lt_of_le (Heap.lt_size (I.pin p hp).1) (by rw [z];exact hb)) (Nat.lt_irrefl _)
structure Turn (P:Program) (w:World) (K:PySem.W.Frag) (tg:Expr) (J:It) (fp:List Addr) (it:Addr) (tn:Nat->Heap->Prop):Prop where
 mem:it∈fp
 obj:∀ i h,tn i h->∀ b∈fp,∃ o,h.get? b=some o/\∀ v,o.data≠.cell v
 keep:∀ i h h',tn i h->(∀ b∈fp,∀ o,h.get? b=some o->h'.get? b=some o)->tn i h'
 item:∀ (X:Cx),X.prog=P->X.w=w->X.K=K->X.calm=true->∀ (i:Nat) (pins:List (Addr × Obj)) (s:Shared) (σ:St) (H:Hp) (E:Value->Shared->Prop),Inv X pins σ H s->(∀ b∈fp,sZ X pins H b)->tn i s.heap->J.go i H ->
  wpAny (model P w) X.A (pyNext (.ref it)) (fun r s1=>∃ u,r=some u /\
   wpAny (model P w) X.A (letOwnedTupleGo tg (.ref it) u) (fun _ s2=>∃ x H',Inv X pins σ H' s2/\RelV x u/\J.yld i H x H'/\tn (i + 1) s2.heap/\∀ b∈fp,H' b=none) E s1) E s
 done:∀ (X:Cx),X.prog=P->X.w=w->X.K=K->X.calm=true->∀ (i:Nat) (pins:List (Addr × Obj)) (s:Shared) (σ:St) (H:Hp) (E:Value->Shared->Prop),Inv X pins σ H s->(∀ b∈fp,sZ X pins H b)->tn i s.heap->J.stop i H ->
  wpAny (model P w) X.A (pyNext (.ref it)) (fun r s1=>r=none/\Inv X pins σ H s1) E s
 self:∀ (A:Around) (i:Nat) (s:Shared) (Q:Value->Shared->Prop) (E:Value->Shared->Prop),tn i s.heap->Q (.ref it) s->wpAny (model P w) A (pyIter (.ref it)) Q E s
abbrev TI:=St->Hp->(It->Hp->Prop)->Prop
def RN (X:Cx) (pins:List (Addr × Obj)) (σ:St) (tg:Expr) (R:It->Hp->Prop) (itv:Value) (s2:Shared):Prop :=
 ∃ (it:Addr) (fp:List Addr) (tn:Nat->Heap->Prop) (J:It) (H':Hp),itv=.ref it/\Inv X pins σ H' s2/\Turn X.prog X.w X.K tg J fp it tn/\tn 0 s2.heap/\(∀ b∈fp,sZ X pins H' b)/\R J H'
def PI (X:Cx) (tg iter:Expr) (wi:TI):Prop :=
 ∀ (pins:List (Addr × Obj)) (s:Shared) (σ:St) (H:Hp) (R:It->Hp->Prop),Inv X pins σ H s->wi σ H R ->
  wpAny (model X.prog X.w) X.A (eval iter X.env) (fun v s1=>wpAny (model X.prog X.w) X.A (pyIter v) (RN X pins σ tg R) X.xe s1) X.xe s
theorem vG {M:Model} {A:Around} {E:Value->Shared->Prop} {s:Shared} {tg:Expr} {it:Addr} {u:Value} {o:Obj} {n:String} {vs:Array Value} {Q:Unit->Shared->Prop} (ho:s.heap.get? it=some o) (hc:o.cls=.type n) (hd:o.data=.fields vs)
    (hn:["enumerate","zip","dict_itemiterator","dict_reverseitemiterator","odict_iterator","itertools.zip_longest","itertools.pairwise"].contains n=false) (hQ:Q () s):wpAny M A (letOwnedTupleGo tg (.ref it) u) Q E s:=by
  unfold letOwnedTupleGo
  cases tg <;> first
    | exact wpAny_pure hQ
    | (cases u <;> first
        | exact wpAny_pure hQ
        | (refine wpAny_bind (wpAny_load ho ?_)
           rw [hc,hd]
           show wpAny M A (if (["enumerate","zip","dict_itemiterator","dict_reverseitemiterator","odict_iterator","itertools.zip_longest","itertools.pairwise"].contains n && vs[0]? == some (rawInt _))=true then _ else _) Q E s
           rw [if_neg (by intro h;rw [hn,Bool.false_and] at h;cases h)]
           exact wpAny_pure hQ))
def L4 (K:PySem.W.Frag) (a:Addr):It :=
 ⟨fun i H=>∃ xs x,eC K H a xs/\xs[i]?=some x,fun i H x H'=>H'=H/\∀ xs,eC K H a xs->xs[i]?=some x,fun i H=>∃ xs,eC K H a xs/\xs.length<=i⟩
def OJ (K:PySem.W.Frag) (a:Addr):It :=
 ⟨fun i H=>∃ xs x,eP K H a xs/\xs[i]?=some x,fun i H x H'=>H'=H/\∀ xs,eP K H a xs->xs[i]?=some x,fun i H=>∃ xs,eP K H a xs/\xs.length<=i⟩
def Mu (lo:Int) (n:Nat):It:=⟨fun i _=>i < n,fun i H x H'=>H'=H/\x=.int (lo + i),fun i _=>n<=i⟩
theorem HA {P:Program} {w:World} {K:PySem.W.Frag} {tg:Expr} (a it:Addr):Turn P w K tg (L4 K a) [it] it (fun i h=>h.IsListIter it a i) where
 mem:=by simp
 obj:=fun i h st b hb=>by
  have e:b=it:=by simpa using hb
  subst e
  obtain ⟨o,e,c,d⟩:=st
  exact ⟨o,e,fun v z=>by rw [d] at z;cases z⟩
 keep:=fun i h h' st k=>st.at fun o e=>k it (by simp) o e
 item:=by
  intro X hP hw hK hc i pins s σ H E I hf st hg
  subst hP hw hK
  obtain ⟨xs,x,hq,hx⟩:=hg
  obtain ⟨its,rv,p,hz⟩:=I.list hq
  obtain ⟨u,hu,ru⟩:=rv.get hx
  obtain ⟨f0,f1,f2,f3,f4,f5⟩:=hf it (by simp)
  refine wpAny_pyNext_list_item st p.isList (x:=u) (by simpa using hu) fun h' st' sb=>?_
  have I1:Inv X pins σ H { s with heap:=h' }:=I.turned (t':=s.toks) (fun b o hb e=>(sb.2 b hb).trans e) f0 f1 f3 f4 f5
  obtain ⟨o,e,c,d⟩:=id st'
  exact ⟨u,rfl,vG (s:={ s with heap:=h' }) e c d (by decide) ⟨x,H,I1,ru,⟨rfl,fun ys hy=>by rw [I.list_inj hy hq];exact hx⟩,st',fun b hb=>(hf b hb).1⟩⟩
 done:=by
  intro X hP hw hK hc i pins s σ H E I hf st hg
  subst hP hw hK
  obtain ⟨xs,hq,hx⟩:=hg
  obtain ⟨its,rv,p,hz⟩:=I.list hq
  obtain ⟨f0,f1,f2,f3,f4,f5⟩:=hf it (by simp)
  have hl:=rv.length
  exact wpAny_pyNext_list_end (I.ok.hd hc) st p.isList (by simp;omega) fun h' eb=>⟨rfl,I.turned (t':=s.toks) (fun b o hb e=>eb b o hb e) f0 f1 f3 f4 f5⟩
 self:=fun _ _ _ _ _ st h=>wpAny_pyIter_listiter st h
theorem Fs {P:Program} {w:World} {K:PySem.W.Frag} {tg:Expr} (a it:Addr):Turn P w K tg (OJ K a) [it] it (fun i h=>h.IsTupleIter it a i) where
 mem:=by simp
 obj:=fun i h st b hb=>by
  have e:b=it:=by simpa using hb
  subst e
  obtain ⟨o,e,c,d⟩:=st
  exact ⟨o,e,fun v z=>by rw [d] at z;cases z⟩
 keep:=fun i h h' st k=>st.at fun o e=>k it (by simp) o e
 item:=by
  intro X hP hw hK hc i pins s σ H E I hf st hg
  subst hP hw hK
  obtain ⟨xs,x,hq,hx⟩:=hg
  obtain ⟨its,rv,p,hz⟩:=I.tuple hq
  obtain ⟨u,hu,ru⟩:=rv.get hx
  obtain ⟨f0,f1,f2,f3,f4,f5⟩:=hf it (by simp)
  refine wpAny_pyNext_tuple_item st (show s.heap.IsTuple a its.toArray from p) (x:=u) (by simpa using hu) fun h' st' sb=>?_
  have I1:Inv X pins σ H { s with heap:=h' }:=I.turned (t':=s.toks) (fun b o hb e=>(sb.2 b hb).trans e) f0 f1 f3 f4 f5
  obtain ⟨o,e,c,d⟩:=id st'
  exact ⟨u,rfl,vG (s:={ s with heap:=h' }) e c d (by decide) ⟨x,H,I1,ru,⟨rfl,fun ys hy=>by rw [I.tuple_inj hy hq];exact hx⟩,st',fun b hb=>(hf b hb).1⟩⟩
 done:=by
  intro X hP hw hK hc i pins s σ H E I hf st hg
  subst hP hw hK
  obtain ⟨xs,hq,hx⟩:=hg
  obtain ⟨its,rv,p,hz⟩:=I.tuple hq
  obtain ⟨f0,f1,f2,f3,f4,f5⟩:=hf it (by simp)
  have hl:=rv.length
  exact wpAny_pyNext_tuple_end (I.ok.hd hc) st (show s.heap.IsTuple a its.toArray from p) (by simp;omega) fun h' eb=>⟨rfl,I.turned (t':=s.toks) (fun b o hb e=>eb b o hb e) f0 f1 f3 f4 f5⟩
 self:=fun _ _ _ _ _ st h=>wpAny_pyIter_tupleiter st h
theorem F9 {P:Program} {w:World} {K:PySem.W.Frag} {tg:Expr} (it:Addr) (lo:Int) (n:Nat):Turn P w K tg (Mu lo n) [it] it (fun i h=>IsRangeIter h it (lo + (i:Nat) * 1) ((n:Int) - (i:Nat)) 1) where
 mem:=by simp
 obj:=fun i h st b hb=>by
  have e:b=it:=by simpa using hb
  subst e
  exact ⟨_,st,fun v z=>by
   have z':Data.fields _=Data.cell v:=z
   cases z'⟩
 keep:=fun i h h' st k=>k it (by simp) _ st
 item:=by
  intro X hP hw hK hc i pins s σ H E I hf st hg
  subst hP hw hK
  obtain ⟨f0,f1,f2,f3,f4,f5⟩:=hf it (by simp)
  have W:=Walks.range (prog:=X.prog) (w:=X.w) (I.ok.hd hc) it lo 1 n
  refine W.item i s _ _ hg st fun v h' tk hv st' kk=>?_
  obtain ⟨t,rfl⟩:=hv
  have I1:Inv X pins σ H { s with heap:=h',toks:=tk }:=I.turned (fun b o hb e=>kk b o (by simpa using hb) e) f0 f1 f3 f4 f5
  refine ⟨_,rfl,vG (s:={ s with heap:=h',toks:=tk }) (n:="range_iterator") st' rfl rfl (by decide) ⟨.int (lo + i),H,I1,⟨t,?_⟩,⟨rfl,rfl⟩,st',fun b hb=>(hf b hb).1⟩⟩
  rw [Int.mul_one]
 done:=by
  intro X hP hw hK hc i pins s σ H E I hf st hg
  subst hP hw hK
  obtain ⟨f0,f1,f2,f3,f4,f5⟩:=hf it (by simp)
  exact wpAny_pyNext_range_end (I.ok.hd hc) st (by have:n<=i:=hg;omega) fun h' eb=>⟨rfl,I.turned (t':=s.toks) (fun b o hb e=>eb b o hb e) f0 f1 f3 f4 f5⟩
 self:=fun _ _ _ _ _ st h=>wpAny_pyIter_rangeiter st h
section
variable {X:Cx} {tg:Expr}
theorem JE {pins:List (Addr × Obj)} {σ:St} {H:Hp} {s:Shared} {R:It->Hp->Prop} {E:Value->Shared->Prop} {lo hi:Int} {t u v:Tok} {tk:Nat} (I:Inv X pins σ H s) (h1:-(2 ^ 62)<=lo) (h2:lo < 2 ^ 62) (h3:-(2 ^ 62)<=hi) (h4:hi < 2 ^ 62)
  (q:R (Mu lo (hi - lo).toNat) H):wpAny (model X.prog X.w) X.A (pyIter (.ref s.heap.objs.size)) (RN X pins σ tg R) E { s with heap:=s.heap.push { cls:=.type "range",data:=.fields #[.int lo t,.int hi u,.int 1 v] },toks:=tk }:=by
 refine wpAny_pyIter_range (IsRange.new ..) (small_one h1 h2 h3 h4) ?_
 have I1:Inv X pins σ H { s with heap:=s.heap.push { cls:=.type "range",data:=.fields #[.int lo t,.int hi u,.int 1 v] },toks:=tk }:=I.kept fun b o e=>Heap.get?_push_of_some _ e
 refine ⟨(s.heap.push { cls:=.type "range",data:=.fields #[.int lo t,.int hi u,.int 1 v] }).objs.size,[(s.heap.push { cls:=.type "range",data:=.fields #[.int lo t,.int hi u,.int 1 v] }).objs.size],_,_,H,rfl,
  I1.kept (t':=tk) fun b o e=>Heap.get?_push_of_some _ e,F9 _ lo (hi - lo).toNat,?_,fun b hb=>?_,q⟩
 ·have e1:lo + ((0:Nat):Int) * 1=lo:=by simp
  have e2:(((hi - lo).toNat:Nat):Int) - ((0:Nat):Int)=Builtin.Range.rangeSize lo hi 1:=by rw [rangeSize_one];split <;> omega
  show IsRangeIter _ _ (lo + ((0:Nat):Int) * 1) ((((hi - lo).toNat:Nat):Int) - ((0:Nat):Int)) 1
  rw [e1,e2]
  exact Heap.get?_push_size _ rfl
 ·have e:b=(s.heap.push { cls:=.type "range",data:=.fields #[.int lo t,.int hi u,.int 1 v] }).objs.size:=by simpa using hb
  subst e
  exact I1.fpOk (Nat.le_refl _) (I1.hok.fresh (Nat.le_refl _))
def Mx (ta:TA):TI:=fun σ H R=>ta σ H fun vs H1=>∃ j:Int,vs=[.int j]/\-(2 ^ 62)<=j/\j < 2 ^ 62/\R (Mu 0 j.toNat) H1
theorem Iv {a:Expr} {ta:TA} {p pos:Pos} (hg:Gl X "range") (hm:X.mg "range"=none) (ha:PA X [a] ta) (hs:starEach [a] X.env=[(false,eval a X.env)]:=by rfl):PI X tg (.Call (.Name "range" p) [a] [] pos) (Mx ta):=by
 intro pins s σ H R I h
 refine Call_ (rJ I hg hm boot_range (PyProof.Rows.callWith_type1 (bI (ha pos pins s σ H _ I h) fun us s1 ⟨vs,H1,I1,r1,q1⟩=>?_) hs rfl))
 obtain ⟨j,e,q1,q2,q⟩:=q1
 subst e
 cases r1 with
 | cons r rr =>
  cases rr
  obtain ⟨t,rfl⟩:=r
  exact call_range_1 (JE I1 (by omega) (by omega) q1 q2 (by simpa using q))
def O9 (wi:TI) (g:TG) (tb:TS):TS:=fun D σ H=>wi σ H fun J H1=>∃ W:Nat->Nat->St->Hp->Prop,(∃ m,W 0 m σ H1)/\∀ i m σ H,W i m σ H ->
 (J.stop i H/\D.nx σ H)\/(J.go i H/\∃ N:St->Hp->Prop,(∀ σ' H',N σ' H'->∃ m',m' < m/\W (i + 1) m' σ' H')/\∀ x H',J.yld i H x H'->g x σ H' fun σ2 H2=>tb { D with nx:=N,ct:=N,bk:=D.nx } σ2 H2)
def uT (fp:List Addr) (h:Heap):List (Addr × Obj):=fp.filterMap fun b=>(h.get? b).map fun o=>(b,o)
theorem o8 {fp:List Addr} {h:Heap} {b:Addr} {o:Obj} (hb:b∈fp) (e:h.get? b=some o):(b,o)∈uT fp h:=List.mem_filterMap.mpr ⟨b,hb,by rw [e];rfl⟩
theorem Ho {fp:List Addr} {h:Heap} {p:Addr × Obj} (hp:p∈uT fp h):p.1∈fp/\h.get? p.1=some p.2:=by
 obtain ⟨b,hb,e⟩:=List.mem_filterMap.mp hp
 cases q:h.get? b with
 | none=>rw [q] at e;cases e
 | some o =>
  rw [q] at e
  have e':(b,o)=p:=Option.some.inj e
  subst e'
  exact ⟨hb,q⟩
theorem Inv.pinned {pins:List (Addr × Obj)} {σ:St} {H:Hp} {s:Shared} {fp:List Addr} (I:Inv X pins σ H s) (hf:∀ b∈fp,sZ X pins H b) (ho:∀ b∈fp,∃ o,s.heap.get? b=some o/\∀ v,o.data≠.cell v):Inv X (pins++uT fp s.heap) σ H s :=
 I.pins_of fun p hp=>(List.mem_append.mp hp).elim (fun z=>I.pin p (List.mem_append_right _ z)) fun z=>by
  obtain ⟨hb,e⟩:=Ho z
  obtain ⟨f0,f1,f2,_⟩:=hf p.1 hb
  obtain ⟨o,e',d⟩:=ho p.1 hb
  rw [e] at e';cases e'
  exact ⟨e,f0,f1,f2,d⟩
theorem Inv.unpinned {pins pl:List (Addr × Obj)} {σ:St} {H:Hp} {s:Shared} (I:Inv X (pins++pl) σ H s):Inv X pins σ H s:=I.pins_of fun p hp=>I.pin p (List.mem_append_right _ (List.mem_append_left _ hp))
theorem Qo {iter:Expr} {body:List Stmt} {wi:TI} {g:TG} {tb:TS} {pos:Pos} (hp:PassesOwn (model X.prog X.w) X.A X.env X.xe) (hc:X.calm=true) (hi:PI X tg iter wi) (hg:PG X tg g) (hb:qK X body tb)
  (hs:∀ x,foldedSetIterable iter X.env x=pure x:=by intro _;rfl):PS X (.For tg iter body [] pos) (O9 wi g tb):=by
 intro pins s σ H D I h
 refine wpAny_For (bI (hi pins s σ H _ I h) fun v s1 h1=>bI h1 fun itv s2 h2=>?_) hs
 obtain ⟨it,fp,tn,J,H2,e,I2,T,cJ,f2,W,⟨m0,w0⟩,turn⟩:=h2
 subst e
 have stat:∀ {H':Hp},(∀ b∈fp,H' b=none)->∀ b∈fp,sZ X pins H' b:=fun hn b hb=>⟨hn b hb,(f2 b hb).2⟩
 refine codeAny_forLoop_any (fun n s'=>∃ i σ' H',Inv X pins σ' H' s'/\tn i s'.heap/\(∀ b∈fp,H' b=none)/\W i n σ' H') ?_ m0 ⟨0,σ,H2,I2,cJ,fun b hb=>(f2 b hb).1,w0⟩
 rintro n s3 ⟨i,σ3,H3,I3,st3,fr3,w3⟩
 rcases turn i n σ3 H3 w3 with ⟨stop,qn⟩ | ⟨go,N,hN,step⟩
 ·refine wpAny_passesOwn hp (bI (T.done X rfl rfl rfl hc i pins s3 σ3 H3 X.xe I3 (stat fr3) st3 stop) fun r s4 ⟨hr,I4⟩=>?_)
  subst hr
  exact wpAny_execs_nil ⟨σ3,H3,I4,qn⟩
 ·refine wpAny_passesOwn hp (bI (T.item X rfl rfl rfl hc i pins s3 σ3 H3 X.xe I3 (stat fr3) st3 go) fun r s4 ⟨u,hr,h4⟩=>?_)
  subst hr
  refine wpAny_passesOwn hp (bI h4 fun _ s5 ⟨x,H5,I5,r5,y5,st5,fr5⟩=>?_)
  have I5':=I5.pinned (stat fr5) (T.obj _ _ st5)
  refine wpAny_passesOwn hp (bI (hg _ s5 σ3 H5 x u _ I5' r5 (step x H5 y5)) fun _ s6 ⟨σ6,H6,I6,q6⟩=>?_)
  refine wpAny_passesOwn hp (bI (hb _ s6 σ6 H6 _ I6 q6) fun f s7 q7=>?_)
  have again:∀ {σ7:St} {H7:Hp},Inv X (pins++uT fp s5.heap) σ7 H7 s7->N σ7 H7->∃ m,m < n/\∃ i σ' H',Inv X pins σ' H' s7/\tn i s7.heap/\(∀ b∈fp,H' b=none)/\W i m σ' H':=fun {σ7 H7} I7 n7=>by
   obtain ⟨m',hm,w7⟩:=hN σ7 H7 n7
   refine ⟨m',hm,i + 1,σ7,H7,I7.unpinned,T.keep _ _ _ st5 fun b hb o e=>(I7.pin (b,o) (List.mem_append_right _ (List.mem_append_right _ (o8 hb e)))).1,fun b hb=>?_,w7⟩
   obtain ⟨o,e,d⟩:=T.obj _ _ st5 b hb
   exact (I7.pin (b,o) (List.mem_append_right _ (List.mem_append_right _ (o8 hb e)))).2.1
  cases f with
  | next=>obtain ⟨σ7,H7,I7,n7⟩:=q7;exact again I7 n7
  | cont=>obtain ⟨σ7,H7,I7,n7⟩:=q7;exact again I7 n7
  | brk=>obtain ⟨σ7,H7,I7,q7⟩:=q7;exact ⟨σ7,H7,I7.unpinned,q7⟩
  | ret v=>obtain ⟨x7,σ7,H7,I7,r7,q7⟩:=q7;exact ⟨x7,σ7,H7,I7.unpinned,r7,q7⟩
end
abbrev R2:=V->V->Hp->VK->Prop
def dA (X:Cx) (f:Value->Value->Sem Value) (r:R2):Prop :=
 ∀ (pins:List (Addr × Obj)) (s:Shared) (σ:St) (H:Hp) (x y:V) (v u:Value) (Q:VK),Inv X pins σ H s->RelV x v->RelV y u->r x y H Q ->
  wpAny (model X.prog X.w) X.A (f v u) (EP X pins σ Q) X.xe s
def jN (X:Cx) (f:Value) (r:List V->Hp->VK->Prop):Prop :=
 ∀ (pins:List (Addr × Obj)) (s:Shared) (σ:St) (H:Hp) (xs:List V) (us:List Value) (Q:VK),Inv X pins σ H s->Vals xs us->r xs H Q ->
  wpAny (model X.prog X.w) X.A (call f us) (EP X pins σ Q) X.xe s
def RQ (X:Cx) (r:V->Hp->(Bool->Hp->Prop)->Prop):Prop :=
 ∀ (pins:List (Addr × Obj)) (s:Shared) (σ:St) (H:Hp) (x:V) (v:Value) (Q:Bool->Hp->Prop),Inv X pins σ H s->RelV x v->r x H Q ->
  wpAny (model X.prog X.w) X.A (truthy v) (TP X pins σ Q) X.xe s
def En (r:R2) (ta tb:TE):TE:=fun σ H Q=>ta σ H fun x H1=>tb σ H1 fun y H2=>r x y H2 Q
def rI (C:Int->Int->Prop) (g:Int->Int->V):R2:=fun x y H Q=>∃ i j,x=.int i/\y=.int j/\C i j/\Q (g i j) H
def tO (g:Int->Int->V):R2:=fun x y H Q=>∃ i j,x=.int i/\y=.int j/\Q (g i j) H
section
variable {X:Cx} {a b c:Expr} {ta tb tc:TE} {pos:Pos}
theorem Kw (ha:PE X a ta) (hb:PE X b tb) {pins:List (Addr × Obj)} {s:Shared} {σ:St} {H:Hp} {R:V->V->Hp->Prop} (I:Inv X pins σ H s)
  (h:ta σ H fun x H1=>tb σ H1 fun y H2=>R x y H2) {Q:Value->Shared->Prop} {f:Value->Value->Sem Value}
  (hf:∀ v u s2 x y H2,Inv X pins σ H2 s2->RelV x v->RelV y u->R x y H2->wpAny (model X.prog X.w) X.A (f v u) Q X.xe s2) :
  wpAny (model X.prog X.w) X.A (eval a X.env) (fun v s₁=>wpAny (model X.prog X.w) X.A (eval b X.env) (fun u s₂=>wpAny (model X.prog X.w) X.A (f v u) Q X.xe s₂) X.xe s₁) X.xe s:=by
 refine bI (ha pins s σ H _ I h) fun v s1 ⟨x,H1,I1,r1,q1⟩=>?_
 refine bI (hb pins s1 σ H1 _ I1 q1) fun u s2 ⟨y,H2,I2,r2,q2⟩=>?_
 exact hf v u s2 x y H2 I2 r1 r2 q2
theorem Rb {op:Operator} {r:R2} (ho:dA X (binaryOp op) r) (ha:PE X a ta) (hb:PE X b tb):PE X (.BinOp a op b pos) (En r ta tb):=by
 intro pins s σ H Q I h
 exact wpAny_BinOp (Kw ha hb I h fun v u s2 x y H2 I2 rx ry q=>ho pins s2 σ H2 x y v u Q I2 rx ry q)
theorem LJ {f:Value->Value->Sem Value} {C:Int->Int->Prop} {g:Int->Int->Int}
  (rule:∀ (i j:Int) (t u:Tok) (s:Shared) (Q:Value->Shared->Prop) (E:Value->Shared->Prop),C i j->Q (.int (g i j) s.toks) { s with toks:=s.toks + 1 }->wpAny (model X.prog X.w) X.A (f (.int i t) (.int j u)) Q E s) :
  dA X f (rI C fun i j=>.int (g i j)):=by
 intro pins s σ H x y v u Q I rx ry h
 obtain ⟨i,j,rfl,rfl,hc,q⟩:=h
 obtain ⟨t,rfl⟩:=rx
 obtain ⟨t',rfl⟩:=ry
 exact rule i j t t' s _ _ hc ⟨.int (g i j),H,I.tok _,⟨_,rfl⟩,q⟩
theorem OF {f:Value->Value->Sem Value} {g:Int->Int->Int}
  (rule:∀ (i j:Int) (t u:Tok) (s:Shared) (Q:Value->Shared->Prop) (E:Value->Shared->Prop),Q (.int (g i j) s.toks) { s with toks:=s.toks + 1 }->wpAny (model X.prog X.w) X.A (f (.int i t) (.int j u)) Q E s) :
  dA X f (tO fun i j=>.int (g i j)):=by
 intro pins s σ H x y v u Q I rx ry h
 obtain ⟨i,j,rfl,rfl,q⟩:=h
 obtain ⟨t,rfl⟩:=rx
 obtain ⟨t',rfl⟩:=ry
 exact rule i j t t' s _ _ ⟨.int (g i j),H,I.tok _,⟨_,rfl⟩,q⟩
theorem FO {f:Value->Value->Sem Value} {g:Int->Int->Bool}
  (rule:∀ (i j:Int) (t u:Tok) (s:Shared) (Q:Value->Shared->Prop) (E:Value->Shared->Prop),Q (.bool (g i j)) s->wpAny (model X.prog X.w) X.A (f (.int i t) (.int j u)) Q E s) :
  dA X f (tO fun i j=>.bl (g i j)):=by
 intro pins s σ H x y v u Q I rx ry h
 obtain ⟨i,j,rfl,rfl,q⟩:=h
 obtain ⟨t,rfl⟩:=rx
 obtain ⟨t',rfl⟩:=ry
 exact rule i j t t' s _ _ ⟨.bl (g i j),H,I,rfl,q⟩
def OZ (i j:Int):Prop:=0<=j/\j<=1000000/\i.natAbs < 2 ^ 64
def Km (i j:Int):Prop:=(-(2 ^ 64) < i/\i < 2 ^ 64)\/(-(2 ^ 64) < j/\j < 2 ^ 64)
theorem Km.ok {i j:Int} (h:Km i j):IntMulOk i j:=by
 rcases h with ⟨h1,h2⟩ | ⟨h1,h2⟩
 ·exact .of_left (intBits_le_64 h1 h2)
 ·exact .of_right (intBits_le_64 h1 h2)
theorem Rj (k:Nat):(0:Int)<=2 ^ k:=by
 rw [two_pow_cast]
 exact Int.natCast_nonneg _
theorem QH:dA X (binaryOp .Add) (tO fun i j=>.int (i + j)):=OF fun _ _ _ _ _ _ _ q=>add_int q
theorem OT:dA X (binaryOp .Sub) (tO fun i j=>.int (i - j)):=OF fun _ _ _ _ _ _ _ q=>sub_int q
theorem Pb:dA X (binaryOp .Mod) (rI (fun _ j=>0 < j) fun i j=>.int (i % j)):=LJ fun i j _ _ _ _ _ hc q=>by
 have h1:(0:Int) < j:=hc
 exact mod_int' (by omega) (by rw [Int.fmod_eq_emod_of_nonneg i (by omega)];exact q)
theorem Ql:dA X (binaryOp .Pow) (rI OZ fun i j=>.int (i ^ j.toNat)):=LJ fun _ _ _ _ _ _ _ hc q=>pow_int_small hc.1 hc.2.1 hc.2.2 q
end
def Gy:V->V->Bool
 | .non,.non=>true | .non,.int _=>true | .int _,.non=>true | .non,.bl _=>true | .bl _,.non=>true | .non,.str _=>true | .str _,.non=>true
 | .int _,.int _=>true | .bl _,.bl _=>true | .str _,.str _=>true | .byt _,.byt _=>true
 | .int _,.str _=>true | .str _,.int _=>true | .bl _,.str _=>true | .str _,.bl _=>true
 | _,_=>false
def Sg:R2:=fun x y H Q=>Gy x y=true/\Q (.bl (decide (x=y))) H
def Sm:R2:=fun x y H Q=>Gy x y=true/\Q (.bl (!decide (x=y))) H
theorem EW {i j:Int}:decide (V.int i=V.int j)=(i == j):=by
 rw [Bool.eq_iff_iff]
 simp
theorem Jo {i j:Bool}:decide (V.bl i=V.bl j)=(i == j):=by
 rw [Bool.eq_iff_iff]
 simp
theorem Ec {i j:Str}:decide (V.str i=V.str j)=(i == j):=by
 rw [Bool.eq_iff_iff]
 simp
theorem EY {i j:Array UInt8}:decide (V.byt i=V.byt j)=(i.toList == j.toList):=by
 rw [Bool.eq_iff_iff]
 cases i
 cases j
 simp
section
variable {X:Cx} {a b c:Expr} {ta tb tc:TE} {pos:Pos}
theorem bU {pins:List (Addr × Obj)} {σ:St} {H:Hp} {s:Shared} {Q:VK} {k k':Bool} (I:Inv X pins σ H s) (q:Q (.bl k) H) (e:k=k'):EP X pins σ Q (.bool k') s:=by
 subst e
 exact ⟨.bl k,H,I,rfl,q⟩
theorem Q8:dA X (compareOp .Eq) Sg:=by
 intro pins s σ H x y v u Q I rx ry h
 obtain ⟨hs,q⟩:=h
 cases x with
 | non =>
  cases rx
  cases y with
  | non=>cases ry;exact PySem.EqNone.eq_none_none (bU I q (by simp))
  | bl j=>cases ry;exact PySem.EqNone.eq_none_bool (bU I q (by simp))
  | int j=>obtain ⟨t',rfl⟩:=ry;exact PySem.EqNone.eq_none_int (bU I q (by simp))
  | str j=>obtain ⟨t',rfl⟩:=ry;exact PySem.EqNone.eq_none_str (bU I q (by simp))
  | _=>exact absurd (show false=true from hs) Bool.false_ne_true
 | bl i =>
  cases rx
  cases y with
  | non=>cases ry;exact PySem.EqNone.eq_bool_none (bU I q (by simp))
  | bl j=>cases ry;exact eq_bool (bU I q Jo)
  | str j=>obtain ⟨t',rfl⟩:=ry;exact PySem.EqMixed.eq_bool_str (bU I q (by simp))
  | _=>exact absurd (show false=true from hs) Bool.false_ne_true
 | int i =>
  obtain ⟨t,rfl⟩:=rx
  cases y with
  | non=>cases ry;exact PySem.EqNone.eq_int_none (bU I q (by simp))
  | int j=>obtain ⟨t',rfl⟩:=ry;exact eq_int (bU I q EW)
  | str j=>obtain ⟨t',rfl⟩:=ry;exact PySem.EqMixed.eq_int_str (bU I q (by simp))
  | _=>exact absurd (show false=true from hs) Bool.false_ne_true
 | str i =>
  obtain ⟨t,rfl⟩:=rx
  cases y with
  | non=>cases ry;exact PySem.EqNone.eq_str_none (bU I q (by simp))
  | bl j=>cases ry;exact PySem.EqMixed.eq_str_bool (bU I q (by simp))
  | int j=>obtain ⟨t',rfl⟩:=ry;exact PySem.EqMixed.eq_str_int (bU I q (by simp))
  | str j=>obtain ⟨t',rfl⟩:=ry;exact eq_str (bU I q Ec)
  | _=>exact absurd (show false=true from hs) Bool.false_ne_true
 | byt i =>
  obtain ⟨t,rfl⟩:=rx
  cases y with
  | byt j=>obtain ⟨t',rfl⟩:=ry;exact PySem.W.eq_bytes (bU I q EY)
  | _=>exact absurd (show false=true from hs) Bool.false_ne_true
 | _=>cases y <;> exact absurd (show false=true from hs) Bool.false_ne_true
theorem Rk:dA X (compareOp .NotEq) Sm:=by
 intro pins s σ H x y v u Q I rx ry h
 obtain ⟨hs,q⟩:=h
 cases x with
 | non =>
  cases rx
  cases y with
  | non=>cases ry;exact PySem.EqNone.ne_none_none (bU I q (by simp))
  | bl j=>cases ry;exact PySem.EqNone.ne_none_bool (bU I q (by simp))
  | int j=>obtain ⟨t',rfl⟩:=ry;exact PySem.EqNone.ne_none_int (bU I q (by simp))
  | str j=>obtain ⟨t',rfl⟩:=ry;exact PySem.EqNone.ne_none_str (bU I q (by simp))
  | _=>exact absurd (show false=true from hs) Bool.false_ne_true
 | bl i =>
  cases rx
  cases y with
  | non=>cases ry;exact PySem.EqNone.ne_bool_none (bU I q (by simp))
  | bl j=>cases ry;exact ne_bool (bU I q (congrArg not Jo))
  | str j=>obtain ⟨t',rfl⟩:=ry;exact PySem.EqMixed.ne_bool_str (bU I q (by simp))
  | _=>exact absurd (show false=true from hs) Bool.false_ne_true
 | int i =>
  obtain ⟨t,rfl⟩:=rx
  cases y with
  | non=>cases ry;exact PySem.EqNone.ne_int_none (bU I q (by simp))
  | int j=>obtain ⟨t',rfl⟩:=ry;exact ne_int (bU I q (congrArg not EW))
  | str j=>obtain ⟨t',rfl⟩:=ry;exact PySem.EqMixed.ne_int_str (bU I q (by simp))
  | _=>exact absurd (show false=true from hs) Bool.false_ne_true
 | str i =>
  obtain ⟨t,rfl⟩:=rx
  cases y with
  | non=>cases ry;exact PySem.EqNone.ne_str_none (bU I q (by simp))
  | bl j=>cases ry;exact PySem.EqMixed.ne_str_bool (bU I q (by simp))
  | int j=>obtain ⟨t',rfl⟩:=ry;exact PySem.EqMixed.ne_str_int (bU I q (by simp))
  | str j=>obtain ⟨t',rfl⟩:=ry;exact ne_str (bU I q (congrArg not Ec))
  | _=>exact absurd (show false=true from hs) Bool.false_ne_true
 | byt i =>
  obtain ⟨t,rfl⟩:=rx
  cases y with
  | byt j=>obtain ⟨t',rfl⟩:=ry;exact PySem.W.ne_bytes (bU I q (congrArg not EY))
  | _=>exact absurd (show false=true from hs) Bool.false_ne_true
 | _=>cases y <;> exact absurd (show false=true from hs) Bool.false_ne_true
theorem Q9:dA X (compareOp .Lt) (tO fun i j=>.bl (decide (i < j))):=FO fun _ _ _ _ _ _ _ q=>lt_int q
theorem QV:dA X (compareOp .LtE) (tO fun i j=>.bl (decide (i<=j))):=FO fun _ _ _ _ _ _ _ q=>le_int q
theorem Rg:dA X (compareOp .Gt) (tO fun i j=>.bl (decide (j < i))):=FO fun _ _ _ _ _ _ _ q=>gt_int q
theorem QR:dA X (compareOp .GtE) (tO fun i j=>.bl (decide (j<=i))):=FO fun _ _ _ _ _ _ _ q=>ge_int q
theorem P7:dA X (compareOp .Is) (fun x y H Q=>y=.non/\Q (.bl (decide (x=.non))) H):=by
 intro pins s σ H x y v u Q I rx ry h
 obtain ⟨rfl,q⟩:=h
 cases ry
 refine is_none_gen (bU I q ?_)
 cases x <;> first
  | (cases rx;rfl)
  | (obtain ⟨t,rfl⟩:=rx;rfl)
theorem NB:dA X (compareOp .IsNot) (fun x y H Q=>y=.non/\Q (.bl (!decide (x=.non))) H):=by
 intro pins s σ H x y v u Q I rx ry h
 obtain ⟨rfl,q⟩:=h
 cases ry
 refine isnot_none_gen (bU I q ?_)
 cases x <;> first
  | (cases rx;rfl)
  | (obtain ⟨t,rfl⟩:=rx;rfl)
theorem dA.or {f:Value->Value->Sem Value} {r r':R2} (h:dA X f r) (h':dA X f r'):dA X f (fun x y H Q=>r x y H Q\/r' x y H Q):=by
 intro pins s σ H x y v u Q I rx ry q
 rcases q with q | q
 ·exact h pins s σ H x y v u Q I rx ry q
 ·exact h' pins s σ H x y v u Q I rx ry q
theorem Hu (b:Expr) {op:CmpOp} (h:op≠.In:=by decide) (h2:op≠.NotIn:=by decide):behindInMarks op b=false:=by
 have e1:(op == CmpOp.In)=false:=by cases op <;> first | rfl | exact absurd rfl h
 have e2:(op == CmpOp.NotIn)=false:=by cases op <;> first | rfl | exact absurd rfl h2
 cases b <;> simp [behindInMarks,e1,e2]
theorem Nb {op:CmpOp} {r:R2} (ho:dA X (compareOp op) r) (ha:PE X a ta) (hb:PE X b tb) (hm:behindInMarks op b=false):PE X (.Compare a [op] [b] pos) (En r ta tb):=by
 intro pins s σ H Q I h
 exact wpAny_Compare1 (Kw ha hb I h fun v u s2 x y H2 I2 rx ry q=>ho pins s2 σ H2 x y v u Q I2 rx ry q) hm
def LI (t:TE):TT:=fun σ H Q=>t σ H fun x H'=>∃ k,x=.bl k/\Q k H'
theorem NF {op:CmpOp} {r:R2} (ho:dA X (compareOp op) r) (ha:PE X a ta) (hb:PE X b tb) (hm:behindInMarks op b=false):PT X (.Compare a [op] [b] pos) (LI (En r ta tb)):=by
 intro pins s σ H Q I h
 refine wpAny_isTrue_Compare1 (bI (ha pins s σ H _ I h) fun v s1 ⟨x,H1,I1,r1,q1⟩=>bI (hb pins s1 σ H1 _ I1 q1) fun u s2 ⟨y,H2,I2,r2,q2⟩ =>
  bI (ho pins s2 σ H2 x y v u _ I2 r1 r2 q2) fun c s3 ⟨z,H3,I3,r3,k,e,q3⟩=>?_) hm
 subst e
 cases r3
 exact wpAny_truthy_bool ⟨H3,I3,q3⟩
def IY (r r':R2) (ta tb tc:TE):TE:=fun σ H Q=>ta σ H fun x H1=>tb σ H1 fun y H2=>r x y H2 fun z H3=>∃ k,z=.bl k /\
 (if k=true then tc σ H3 fun w' H4=>r' y w' H4 Q else Q (.bl false) H3)
theorem KH {op op':CmpOp} {r r':R2} (ho:dA X (compareOp op) r) (ho':dA X (compareOp op') r') (ha:PE X a ta) (hb:PE X b tb) (hc:PE X c tc)
  (hm:lastMarks [op,op'] [b,c]=false:=by with_unfolding_all rfl):PE X (.Compare a [op,op'] [b,c] pos) (IY r r' ta tb tc):=by
 intro pins s σ H Q I h
 refine Compare_chain (bI (ha pins s σ H _ I h) fun v s1 ⟨x,H1,I1,r1,q1⟩=>chain_link (bI (hb pins s1 σ H1 _ I1 q1) fun u s2 ⟨y,H2,I2,r2,q2⟩ =>
  bI (ho pins s2 σ H2 x y v u _ I2 r1 r2 q2) fun d s3 ⟨z,H3,I3,r3,k,e,q3⟩=>?_)) hm
 subst e
 cases r3
 refine wpAny_truthy_bool ?_
 cases k with
 | false=>exact ite_ff ⟨.bl false,H3,I3,rfl,q3⟩
 | true=>exact ite_tt (chain_last (bI (hc pins s3 σ H3 _ I3 q3) fun w' s4 ⟨z',H4,I4,r4,q4⟩=>ho' pins s4 σ H4 y z' u w' Q I4 r2 r4 q4))
def JB (K:PySem.W.Frag) (x:V) (H:Hp) (k:Bool):Prop :=
 match x with
 | .non=>k=false
 | .bl b=>k=b
 | .int i=>k=(i != 0)
 | .str y=>y.length<=sizeLine/\k=((y.length:Int) != 0)
 | .byt y=>y.size<=sizeLine/\k=((y.size:Int) != 0)
 | .ref p=>(∃ xs,eC K H p xs/\k=!xs.isEmpty)\/(∃ xs,eP K H p xs/\k=!xs.isEmpty)\/∃ kvs,H p=some (.dK kvs)/\k=!kvs.isEmpty
 | _=>False
theorem Fe {κ:Type} {kvs:List (κ × V)} {vs:List (κ × Value)} (r:KV kvs vs):(!vs.isEmpty)=!kvs.isEmpty:=by
 cases r <;> rfl
theorem yP {xs:List V} {its:List Value} (r:Vals xs its):(!its.toArray.isEmpty)=!xs.isEmpty:=by
 cases r <;> simp
theorem pR:(sizeLine:Nat) < 2 ^ 63:=by rw [sizeLine_eq];decide
theorem QG:RQ X (fun x H Q=>∃ k,JB X.K x H k/\Q k H):=by
 intro pins s σ H x v Q I rx h
 obtain ⟨k,e,q⟩:=h
 have hl:=pR
 have hs:sizeLine=16777216:=sizeLine_eq
 cases x with
 | non =>
  cases rx
  have e':k=false:=e
  subst e'
  exact truthy_none ⟨H,I,q⟩
 | bl b =>
  cases rx
  have e':k=b:=e
  subst e'
  exact wpAny_truthy_bool ⟨H,I,q⟩
 | int i =>
  obtain ⟨t,rfl⟩:=rx
  have e':k=(i != 0):=e
  subst e'
  exact PySem.P.truthy_int ⟨H,I,q⟩
 | str y =>
  obtain ⟨t,rfl⟩:=rx
  obtain ⟨hy,e'⟩:y.length<=sizeLine/\k=((y.length:Int) != 0):=e
  subst e'
  exact PySem.P.truthy_str (by omega) ⟨H,I.tok _,q⟩
 | byt y =>
  obtain ⟨t,rfl⟩:=rx
  obtain ⟨hy,e'⟩:y.size<=sizeLine/\k=((y.size:Int) != 0):=e
  subst e'
  exact PySem.W.truthy_bytes (by omega) ⟨H,I.tok _,q⟩
 | ref p =>
  cases rx
  have e':(∃ xs,eC X.K H p xs/\k=!xs.isEmpty)\/(∃ xs,eP X.K H p xs/\k=!xs.isEmpty)\/∃ kvs,H p=some (.dK kvs)/\k=!kvs.isEmpty:=e
  rcases e' with ⟨xs,hx,e'⟩ | ⟨xs,hx,e'⟩ | ⟨kvs,hx,e'⟩
  ·subst e'
   obtain ⟨its,r,pl,hz⟩:=I.list hx
   have hlen:=r.length
   exact wpAny_truthy_list pl.isList (by simp only [List.size_toArray];omega) ⟨H,I.tok _,by rw [yP r];exact q⟩
  ·subst e'
   obtain ⟨its,r,pl,hz⟩:=I.tuple hx
   have hlen:=r.length
   exact truthy_tuple pl (by simp only [List.size_toArray];omega) ⟨H,I.tok _,by rw [yP r];exact q⟩
  ·subst e'
   obtain ⟨hz,hS,vs,r,m⟩:kvs.length<=sizeLine/\(p == sysModules)=false/\∃ vs,KV kvs vs/\s.heap.DictOf (eV X.prog X.w) p vs:=I.hok p _ hx
   have hlen:kvs.length=vs.length:=Paired.length r
   exact wpAny_truthy_dict hS m (by omega) ⟨H,I.tok _,by rw [Fe r];exact q⟩
 | _=>exact (show False from e).elim
theorem K9 (ha:PE X a ta) (he:∀ whole,isTrue a X.env whole=(do let v <- whole;standAt a.pos;holding [v] (truthy v))) :
  PT X a (fun σ H Q=>ta σ H fun x H'=>∃ k,JB X.K x H' k/\Q k H'):=by
 intro pins s σ H Q I h
 exact isTrue_plain (bI (ha pins s σ H _ I h) fun v s1 ⟨x,H1,I1,r1,q1⟩=>QG pins s1 σ H1 x v Q I1 r1 q1) (he _)
theorem GL:dA X (binaryOp .Add) (fun x y H Q=>∃ i j,x=.str i/\y=.str j/\i.length + j.length<=sizeLine/\Q (.str (i++j)) H):=by
 intro pins s σ H x y v u Q I rx ry h
 obtain ⟨i,j,rfl,rfl,hz,q⟩:=h
 obtain ⟨t,rfl⟩:=rx
 obtain ⟨t',rfl⟩:=ry
 exact add_str (fun t' tk=>⟨.str (i++j),H,I.tok _,⟨_,rfl⟩,q⟩) hz
theorem vals1 {x:V} {us:List Value} (r:Vals [x] us):∃ u,us=[u]/\RelV x u:=by
 cases r with
 | cons r1 r2=>cases r2;exact ⟨_,rfl,r1⟩
theorem vals2 {x y:V} {us:List Value} (r:Vals [x,y] us):∃ u w',us=[u,w']/\RelV x u/\RelV y w':=by
 cases r with
 | cons r1 r2 =>
  cases r2 with
  | cons r3 r4=>cases r4;exact ⟨_,_,rfl,r1,r3⟩
theorem IZ (hc:X.calm=true):jN X (.builtin "max") (fun xs H Q=>∃ i j,xs=[.int i,.int j]/\Q (.int (if j > i then j else i)) H):=by
 intro pins s σ H xs us Q I r h
 obtain ⟨i,j,rfl,q⟩:=h
 obtain ⟨u,w',rfl,⟨t,rfl⟩,⟨t',rfl⟩⟩:=vals2 r
 refine max_two_ints (I.ok.hd hc) fun h' tk k=>⟨_,H,I.kept k,?_,q⟩
 by_cases hj:j > i
 ·rw [if_pos hj,if_pos hj];exact ⟨_,rfl⟩
 ·rw [if_neg hj,if_neg hj];exact ⟨_,rfl⟩
theorem Ja (hc:X.calm=true):jN X (.builtin "min") (fun xs H Q=>∃ i j,xs=[.int i,.int j]/\Q (.int (if j < i then j else i)) H):=by
 intro pins s σ H xs us Q I r h
 obtain ⟨i,j,rfl,q⟩:=h
 obtain ⟨u,w',rfl,⟨t,rfl⟩,⟨t',rfl⟩⟩:=vals2 r
 refine min_two_ints (I.ok.hd hc) fun h' tk k=>⟨_,H,I.kept k,?_,q⟩
 by_cases hj:j < i
 ·rw [if_pos hj,if_pos hj];exact ⟨_,rfl⟩
 ·rw [if_neg hj,if_neg hj];exact ⟨_,rfl⟩
def P5 (K:PySem.W.Frag) (x:V) (H:Hp) (n:Nat):Prop :=
 match x with
 | .str y=>y.length<=sizeLine/\n=y.length
 | .byt y=>y.size<=sizeLine/\n=y.size
 | .ref p=>(∃ xs,eC K H p xs/\n=xs.length)\/∃ xs,eP K H p xs/\n=xs.length
 | _=>False
theorem Jz:jN X (.builtin "len") (fun xs H Q=>∃ x n,xs=[x]/\P5 X.K x H n/\Q (.int n) H):=by
 intro pins s σ H xs us Q I r h
 obtain ⟨x,n,rfl,e,q⟩:=h
 obtain ⟨u,rfl,rx⟩:=vals1 r
 have hl:=pR
 have hs:sizeLine=16777216:=sizeLine_eq
 cases x with
 | str y =>
  obtain ⟨t,rfl⟩:=rx
  obtain ⟨hy,e'⟩:y.length<=sizeLine/\n=y.length:=e
  subst e'
  exact len_str (by omega) ⟨.int _,H,I.tok _,⟨_,rfl⟩,q⟩
 | byt y =>
  obtain ⟨t,rfl⟩:=rx
  obtain ⟨hy,e'⟩:y.size<=sizeLine/\n=y.size:=e
  subst e'
  exact PySem.W.len_bytes (by omega) ⟨.int _,H,I.tok _,⟨_,rfl⟩,q⟩
 | ref p =>
  cases rx
  have e':(∃ xs,eC X.K H p xs/\n=xs.length)\/∃ xs,eP X.K H p xs/\n=xs.length:=e
  rcases e' with ⟨xs,hx,e'⟩ | ⟨xs,hx,e'⟩
  ·subst e'
   obtain ⟨its,r',pl,hz⟩:=I.list hx
   have hlen:=r'.length
   exact Calls.call_len_list pl.isList (by simp only [List.size_toArray];omega) ⟨.int xs.length,H,I.tok _,⟨_,by simp only [List.size_toArray];rw [hlen]⟩,q⟩
  ·subst e'
   obtain ⟨its,r',pl,hz⟩:=I.tuple hx
   have hlen:=r'.length
   exact len_tuple pl (by simp only [List.size_toArray];omega) ⟨.int xs.length,H,I.tok _,⟨_,by simp only [List.size_toArray];rw [hlen]⟩,q⟩
 | _=>exact (show False from e).elim
end
structure xM (h:Heap) (x dx C:Addr) (mA:Str->Option Value):Prop where
 obj:h.get? x=some (PySem.W.instObj C dx)
 ns:h.Ns1 dx mA
 ne:dx≠x
theorem IW {h:Heap} {dx:Addr} {mA:Str->Option Value} (n:h.Ns1 dx mA):∃ od,h.get? dx=some od/\∀ name,PySem.W.lookIn name od=some (mA name):=by
 obtain ⟨o,es,ep,ho,hd,hk,_,hm⟩:=n
 refine ⟨o,ho,fun name=>?_⟩
 have e:=hm name
 unfold nsFind findBy at e
 rw [<- Array.find?_toList] at e
 unfold PySem.W.lookIn
 rw [hd]
 dsimp only
 split
 ·rename_i y q
  rw [q] at e
  exact congrArg some e
 ·rename_i q
  rw [q] at e
  have a:es.toList.any (·.refKey)=false:=by
   rw [List.any_eq_false]
   intro y hy
   obtain ⟨z,t,hkey⟩:=hk y (Array.mem_toList_iff.mp hy)
   simp [DictEntry.refKey,hkey]
  have a':¬ es.toList.any (·.refKey)=true:=by rw [a];exact Bool.false_ne_true
  rw [if_neg a']
  exact congrArg some e
theorem xM.look {h:Heap} {x dx C:Addr} {mA:Str->Option Value} (I:xM h x dx C mA):∃ od,PySem.W.InstAt h x (PySem.W.instObj C dx) C (some od)/\∀ name,PySem.W.lookIn name od=some (mA name) :=
 let ⟨od,ho,hl⟩:=IW I.ns
 ⟨od,⟨I.obj,rfl,rfl,ho⟩,hl⟩
section
variable {prog:Program} {w:World} {A:Around} {E:Value->Shared->Prop} {s:Shared} {K:PySem.W.Frag} {x dx C f:Addr} {mA:Str->Option Value} {name:Str} {v:Value}
theorem get_map {expr:Bool} {Q:Value->Shared->Prop} (X:K.In s.heap) (I:xM s.heap x dx C mA) (hg:PySem.W.plainGet K C name=true) (hh:PySem.W.hasDictIn K C=true)
  (ha:PySem.W.findIn K (.ref C) name=some none) (hv:mA name=some v) (hv':PySem.W.handedIn v=true) (h:Q v { s with toks:=s.toks + 1 }) :
  wpAny (model prog w) A (getAttr (.ref x) name expr) Q E s:=by
 obtain ⟨od,J,hl⟩:=I.look
 exact PySem.W.get_value X J (PySem.W.plainGet_of hg).1 (PySem.W.findObj_own hh ha rfl (by rw [hl,hv])) hv' h
theorem Ku {pl:Sem Bool} {Q:Value × List Value->Shared->Prop} (X:K.In s.heap) (I:xM s.heap x dx C mA) (hg:PySem.W.plainGet K C name=true)
  (hf:PySem.W.findIn K (.ref C) name=some (some (.ref f))) (ht:PySem.W.isFn K (.ref f)=true) (hv:mA name=none) (h:Q (.ref f,[.ref x]) s) :
  wpAny (model prog w) A (getMethod (.ref x) name pl) Q E s:=by
 obtain ⟨od,J,hl⟩:=I.look
 exact PySem.W.method_fn X J (PySem.W.plainGet_of hg).1 (PySem.W.plainGet_of hg).2 hf (beq_iff_eq.mp ht) (by show (PySem.W.lookIn name od).map (·.isSome)=some false;rw [hl,hv];rfl) h
theorem NJ {ns:List Str} {Q:Unit->Shared->Prop} (X:K.In s.heap) (I:xM s.heap x dx C mA)
  (hs:PySem.W.findIn K (.ref C) "__setattr__"=some (some (.builtin "object.__setattr__"))) (hp:PySem.W.plainOver K C=true) (ht:PySem.W.takerIn K C name=some none) (hh:PySem.W.hasDictIn K C=true)
  (hw:PySem.Within mA ns) (hsz:ns.length<=sizeLine)
  (h:∀ h',xM h' x dx C (fun y=>if y=name then some v else mA y)->Heap.SameBut dx s.heap h'->Q () { s with heap:=h',toks:=s.toks + 2 }) :
  wpAny (model prog w) A (setAttr (.ref x) name v) Q E s:=by
 obtain ⟨od,J,hl⟩:=I.look
 refine PySem.W.set_plain X J hs (PySem.W.osa_open (s:={ s with toks:=s.toks + 1 }) (r:=none) X J hp ht fun b=>?_)
 obtain ⟨cd,hc,hd'⟩:=PySem.W.any_some hh
 have hx:s.heap.get? x=some ⟨.ref C,some dx,.plain,#[]⟩:=I.obj
 refine wpAny_bind (wpAny_pure (wpAny_bind (wpAny_bind (wpAny_loadPart hx (wpAny_bind (PySem.W.Looks.here (s:={ s with toks:=s.toks + 1 }) (PySem.W.looks_clsIn X hc) ?_))))))
 rw [hd']
 refine wpAny_pure (a:=some dx) (wpAny_bind (wpAny_pure (wpAny_bind ?_)))
 refine wpAny_nsSet1 (s:={ s with toks:=s.toks + 1 }) I.ns fun h' hn2 hs2=>?_
 obtain ⟨oD,esD,epD,hoD,hdD,hcD⟩:=hn2.count (PySem.Within.cons name v hw)
 refine wpAny_bind (wpAny_lookBehind hoD (by rw [hdD];exact pastItsLine_dict (Nat.le_trans hcD (by rw [List.length_cons];omega))) ?_)
 exact wpAny_pure (h _ ⟨(hs2.2 _ (Ne.symm I.ne)).trans I.obj,hn2,I.ne⟩ hs2)
theorem J3 {R:Result->Shared->Prop} {vs:List Value} {kw:List (Str × Value)} (X:K.In s.heap) (hm:PySem.W.makesIn K C=true)
  (hi:PySem.W.findIn K (.ref C) "__init__"=some (some (.ref f))) (hf:PySem.W.typeIn K (.ref f)=some (.type "function"))
  (h:codeAny (model prog w) (A.under (.builtin "type.__call__" ⟨.ref C :: vs,kw⟩)) (.call (.ref f) ⟨.ref (s.heap.objs.size + 1) :: vs,kw⟩) (PySem.W.InitBack (s.heap.objs.size + 1) R)
   { s with heap:=(s.heap.push PySem.W.emptyDict).push (PySem.W.instObj C s.heap.objs.size) }) :
  codeAny (model prog w) A (.call (.ref C) ⟨vs,kw⟩) R s:=by
 obtain ⟨hh,g,d,t,os⟩:=s
 exact PySem.W.make_core (PySem.W.makes_of X hm) (PySem.W.looks_findIn X hi) (fun self=>PySem.W.bind_fn X self hf) (.inl rfl) h
end
def putF (f:Str) (v:V):List (Str × V)->List (Str × V)
 | []=>[(f,v)]
 | (g,x) :: r=>if g=f then (g,v) :: r else (g,x) :: putF f v r
theorem wO (f g:Str) (v:V):∀ fs:List (Str × V),(putF f v fs).lookup g=if g=f then some v else fs.lookup g
 | []=>by
  show List.lookup g [(f,v)]=_
  by_cases h:g=f
  ·have hb:(g == f)=true:=beq_iff_eq.mpr h
   simp only [List.lookup,hb,if_pos h]
  ·have hb:(g == f)=false:=beq_eq_false_iff_ne.mpr h
   simp only [List.lookup,hb,if_neg h]
 | (k,x) :: r=>by
  have ih:=wO f g v r
  rw [show putF f v ((k,x) :: r)=(if k=f then (k,v) :: r else (k,x) :: putF f v r) from rfl]
  by_cases hk:k=f
  ·rw [if_pos hk]
   by_cases h:g=k
   ·have hb:(g == k)=true:=beq_iff_eq.mpr h
    simp only [List.lookup,hb,if_pos (h.trans hk)]
   ·have hb:(g == k)=false:=beq_eq_false_iff_ne.mpr h
    simp only [List.lookup,hb,if_neg (fun e:g=f=>h (e.trans hk.symm))]
  ·rw [if_neg hk]
   by_cases h:g=k
   ·have hb:(g == k)=true:=beq_iff_eq.mpr h
    simp only [List.lookup,hb,if_neg (fun e:g=f=>hk (h.symm.trans e))]
   ·have hb:(g == k)=false:=beq_eq_false_iff_ne.mpr h
    simp only [List.lookup,hb]
    exact ih
theorem uA (f:Str) (v:V):∀ fs:List (Str × V),f∈(putF f v fs).map (·.1)/\∀ g,g∈fs.map (·.1)->g∈(putF f v fs).map (·.1)
 | []=>⟨by simp [putF],fun g h=>by simp at h⟩
 | (k,x) :: r=>by
  obtain ⟨i1,i2⟩:=uA f v r
  rw [show putF f v ((k,x) :: r)=(if k=f then (k,v) :: r else (k,x) :: putF f v r) from rfl]
  by_cases hk:k=f
  ·rw [if_pos hk]
   subst hk
   exact ⟨by simp,fun g h=>by simpa using h⟩
  ·rw [if_neg hk]
   refine ⟨?_,fun g h=>?_⟩
   ·rw [List.map_cons]
    exact List.mem_cons_of_mem _ i1
   ·rw [List.map_cons] at h ⊢
    rcases List.mem_cons.mp h with e | e
    ·exact List.mem_cons.mpr (.inl e)
    ·exact List.mem_cons_of_mem _ (i2 g e)
theorem wI (f:Str) (v:V):∀ fs:List (Str × V),(putF f v fs).length<=fs.length + 1
 | []=>by simp [putF]
 | (k,x) :: r=>by
  have ih:=wI f v r
  rw [show putF f v ((k,x) :: r)=(if k=f then (k,v) :: r else (k,x) :: putF f v r) from rfl]
  by_cases hk:k=f
  ·rw [if_pos hk,List.length_cons,List.length_cons];omega
  ·rw [if_neg hk,List.length_cons,List.length_cons];omega
theorem jR.some_of {v:V} {o:Option Value} (r:jR (some v) o):∃ u,o=some u/\RelV v u:=by
 cases o with
 | none=>exact (show False from r).elim
 | some u=>exact ⟨u,rfl,r⟩
theorem jR.none_of {o:Option Value} (r:jR none o):o=none:=by
 cases o with
 | none=>rfl
 | some u=>exact (show False from r).elim
theorem IL {v:V} {u:Value} (r:RelV v u):PySem.W.handedIn u=true:=by
 cases v with
 | non=>cases (show u=Value.none from r);rfl
 | bl b=>cases (show u=Value.bool b from r);rfl
 | int i=>obtain ⟨t,e⟩:=(show ∃ t,u=Value.int i t from r);cases e;rfl
 | str x=>obtain ⟨t,e⟩:=(show ∃ t,u=Value.str x t from r);cases e;rfl
 | byt b=>obtain ⟨t,e⟩:=(show ∃ t,u=Value.bytes b t from r);cases e;rfl
 | flt b=>obtain ⟨t,e⟩:=(show ∃ t,u=Value.float b t from r);cases e;rfl
 | ref a=>cases (show u=Value.ref a from r);rfl
 | ty n=>cases (show u=Value.type n from r);rfl
section
variable {P:Program} {w:World} {H H':Hp} {h h':Heap} {a C dx:Addr} {fs fs':List (Str × V)}
theorem AB (hok:fR P w H h) (e:H a=some (.ins C dx fs)):∃ mA,xM h a dx C mA/\(∀ f,jR (fs.lookup f) (mA f))/\PySem.Within mA (fs.map (·.1))/\fs.length<=1000/\H dx=some (.own a):=by
 obtain ⟨d,z,ne,ob,mA,n,r,q⟩:=(show dI P w H h a (.ins C dx fs) from hok a _ e)
 exact ⟨mA,⟨ob,n,ne⟩,r,q,z,d⟩
end
structure fQ (K:PySem.W.Frag) (C:Addr):Prop where
 pg:PySem.W.plainGet K C Str.empty=true
 hd:PySem.W.hasDictIn K C=true
 po:PySem.W.plainOver K C=true
 sa:PySem.W.findIn K (.ref C) "__setattr__"=some (some (.builtin "object.__setattr__"))
theorem fQ.get {K:PySem.W.Frag} {C:Addr} (c:fQ K C) (f:Str):PySem.W.plainGet K C f=true:=c.pg
def bY (K:PySem.W.Frag) (C:Addr) (f:Str):Prop:=PySem.W.findIn K (.ref C) f=some none
theorem bY.taker {K:PySem.W.Frag} {C:Addr} {f:Str} (n:bY K C f):PySem.W.takerIn K C f=some none:=by
 unfold PySem.W.takerIn
 rw [show PySem.W.findIn K (.ref C) f=some none from n]
 rfl
structure Meth (K:PySem.W.Frag) (C:Addr) (m:Str) (f:Addr):Prop where
 at_:PySem.W.findIn K (.ref C) m=some (some (.ref f))
 fn:PySem.W.isFn K (.ref f)=true
 kp:PySem.W.keepIn K (.ref f)=true
section
variable {X:Cx} {pins:List (Addr × Obj)} {σ:St} {H:Hp} {s:Shared} {a C dx:Addr} {fs:List (Str × V)} {f:Str} {v:V} {A:Around} {E:Value->Shared->Prop}
theorem Gk {b:Bool} {Q:Value->Shared->Prop} (I:Inv X pins σ H s) (e:H a=some (.ins C dx fs)) (c:fQ X.K C) (n:bY X.K C f) (l:fs.lookup f=some v)
  (h:∀ u s',Inv X pins σ H s'->RelV v u->Q u s'):wpAny (model X.prog X.w) A (getAttr (.ref a) f b) Q E s:=by
 obtain ⟨mA,O,r,_,_,_⟩:=AB I.hok e
 obtain ⟨u,hu,ru⟩:=jR.some_of (v:=v) (o:=mA f) (by rw [<- l];exact r f)
 exact get_map I.kIn O (c.get f) c.hd n hu (IL ru) (h u _ (I.tok _) ru)
theorem yR {m:Str} {g:Addr} {pl:Sem Bool} {Q:Value × List Value->Shared->Prop} (I:Inv X pins σ H s) (e:H a=some (.ins C dx fs)) (c:fQ X.K C) (k:Meth X.K C m g) (l:fs.lookup m=none)
  (h:Q (.ref g,[.ref a]) s):wpAny (model X.prog X.w) A (getMethod (.ref a) m pl) Q E s:=by
 obtain ⟨mA,O,r,_,_,_⟩:=AB I.hok e
 have hn:mA m=none:=jR.none_of (by rw [<- l];exact r m)
 exact Ku I.kIn O (c.get m) k.at_ k.fn hn h
theorem GQ {y:V} {u:Value} {Q:Unit->Shared->Prop} (I:Inv X pins σ H s) (e:H a=some (.ins C dx fs)) (c:fQ X.K C) (n:bY X.K C f) (hl:fs.length < 1000) (ry:RelV y u)
  (h:∀ s',Inv X pins σ (upd H a (.ins C dx (putF f y fs))) s'->Q () s'):wpAny (model X.prog X.w) A (setAttr (.ref a) f u) Q E s:=by
 obtain ⟨mA,O,r,wi,_,ho⟩:=AB I.hok e
 have hz:(fs.map (·.1)).length<=sizeLine:=by rw [List.length_map,sizeLine_eq];omega
 refine NJ I.kIn O c.sa c.po n.taker c.hd wi hz fun h' O' sb=>h _ ?_
 have hd:∃ o,h'.get? dx=some o:=let ⟨o,_,_,e',_⟩:=O'.ns;⟨o,e'⟩
 refine I.write (x:=a) (e:=dx) (by rw [e];exact True.intro) (.inr ho) (fun b q hb z=>(sb.2 b hb).trans z) hd ?_
 refine ⟨by rw [bL O.ne];exact ho,?_,O.ne,O'.obj,_,O'.ns,fun g=>?_,fun g hg=>?_⟩
 ·have:=wI f y fs;omega
 ·show jR ((putF f y fs).lookup g) (if g=f then some u else mA g)
  rw [wO]
  by_cases q:g=f
  ·rw [if_pos q,if_pos q];exact ry
  ·rw [if_neg q,if_neg q];exact r g
 ·by_cases q:g=f
  ·rw [q];exact (uA f y fs).1
  ·refine (uA f y fs).2 g (wi g fun z=>hg ?_)
   show (if g=f then some u else mA g)=none
   rw [if_neg q];exact z
theorem Inv.made (I:Inv X pins σ H s):Inv X pins σ (upd (upd H s.heap.objs.size (.own (s.heap.objs.size + 1))) (s.heap.objs.size + 1) (.ins C s.heap.objs.size []))
  { s with heap:=(s.heap.push PySem.W.emptyDict).push (PySem.W.instObj C s.heap.objs.size) }:=by
 have e1:(s.heap.push PySem.W.emptyDict).get? s.heap.objs.size=some PySem.W.emptyDict:=Heap.get?_push_size s.heap rfl
 have e2:((s.heap.push PySem.W.emptyDict).push (PySem.W.instObj C s.heap.objs.size)).get? (s.heap.objs.size + 1)=some (PySem.W.instObj C s.heap.objs.size):=by
  have:=Heap.get?_push_size (s.heap.push PySem.W.emptyDict) (o:=PySem.W.instObj C s.heap.objs.size) rfl
  rwa [Heap.size_push] at this
 have e3:(s.heap.push PySem.W.emptyDict).Ns s.heap.objs.size (fun _=>none):=⟨PySem.W.emptyDict,#[],_,e1,rfl,(fun e he=>absurd he (by simp)),fun _=>rfl⟩
 have I1:=I.laid (a:=s.heap.objs.size) (o:=.own (s.heap.objs.size + 1)) (h':=s.heap.push PySem.W.emptyDict) (t':=s.toks) (fun b u q=>Heap.get?_push_of_some _ q) (Nat.le_refl _) ⟨_,e1⟩
 refine I1.laid (a:=s.heap.objs.size + 1) (o:=.ins C s.heap.objs.size []) (t':=s.toks) (fun b u q=>Heap.get?_push_of_some _ q) (Nat.le_of_eq (Heap.size_push _ _)) ?_
 have ne:s.heap.objs.size≠s.heap.objs.size + 1:=Nat.ne_of_lt (Nat.lt_succ_self _)
 refine ⟨by rw [bL ne,cE],Nat.zero_le _,ne,e2,fun _=>none,(Heap.Ns1.of_empty e3).at fun o q=>Heap.get?_push_of_some _ q,fun _=>True.intro,fun y hy=>absurd rfl hy⟩
theorem NK {prog:Program} {w:World} {env:Env} {e:Expr} {f:Str} {pos:Pos} {s:Shared} {Q:Value->Shared->Prop} (hb:attributeBase e f env (eval e env)=eval e env)
  (h:wpAny (model prog w) A (eval e env) (fun o s₁=>wpAny (model prog w) A (getAttr o f true) Q E s₁) E s):wpAny (model prog w) A (eval (.Attribute e f pos) env) Q E s :=
 Attribute_any_ h (by rw [arm_eval_Attribute,hb])
end
def OX (K:PySem.W.Frag) (ta:TE) (f:Str):TE:=fun σ H Q=>ta σ H fun x H1=>∃ a C dx fs v,x=.ref a/\H1 a=some (.ins C dx fs)/\fQ K C/\bY K C f/\fs.lookup f=some v/\Q v H1
def PN (K:PySem.W.Frag) (ta tv:TE) (f:Str):TS:=fun D σ H=>tv σ H fun y H1=>ta σ H1 fun x H2=>∃ a C dx fs,x=.ref a/\H2 a=some (.ins C dx fs)/\fQ K C/\bY K C f/\fs.length < 1000 /\
 D.nx σ (upd H2 a (.ins C dx (putF f y fs)))
section
variable {X:Cx} {o e value:Expr} {f:Str} {pos pos' tpos:Pos} {ta tv:TE}
theorem P8 (he:PE X e ta) (hb:attributeBase e f X.env (eval e X.env)=eval e X.env):PE X (.Attribute e f pos) (OX X.K ta f):=by
 intro pins s σ H Q I h
 refine NK hb (bI (he pins s σ H _ I h) fun u s1 ⟨x,H1,I1,rx,a,C,dx,fs,v,ex,ea,c,n,l,q⟩=>?_)
 subst ex
 obtain rfl:u=Value.ref a:=rx
 exact Gk I1 ea c n l fun u' s2 I2 ru=>⟨v,H1,I2,ru,q⟩
theorem Qh (ha:PE X o ta) (hv:PE X value tv) (hs:swapsWith value (some (.Attribute o f pos')) pos.line X.env=pure false):PS X (.Assign [.Attribute o f pos'] value pos) (PN X.K ta tv f):=by
 intro pins s σ H D I h
 refine plainObj_wpAny_Assign_Attribute (bI (hv pins s σ H _ I h) fun u s1 ⟨y,H1,I1,ry,q⟩=>bI (ha pins s1 σ H1 _ I1 q) fun ov s2 ⟨x,H2,I2,rx,a,C,dx,fs,ex,ea,c,n,l,q2⟩=>?_) hs
 subst ex
 obtain rfl:ov=Value.ref a:=rx
 exact GQ I2 ea c n l ry fun s3 I3=>⟨σ,_,I3,q2⟩
theorem QN {pl:Sem Bool} {m:Str} {apos:Pos} {args:List Expr} {pins:List (Addr × Obj)} {s:Shared} {σ:St} {H:Hp} {Q:Value->Shared->Prop} {te:TE} (he:PE X e te) (I:Inv X pins σ H s)
  (h:te σ H fun x H1=>∃ a C dx fs g,x=.ref a/\H1 a=some (.ins C dx fs)/\fQ X.K C/\Meth X.K C m g/\fs.lookup m=none /\
   ∀ s1,Inv X pins σ H1 s1->wpAny (model X.prog X.w) X.A (callWith pos (.ref g) [.ref a] (backTo pos (starEach args X.env)) (backToKw pos (keywordEach [] X.env))) Q X.xe s1)
  (ht:eval (.Call (.Attribute e m apos) args [] pos) X.env=(do
   let ov <- eval e X.env
   standAt apos.atName
   let (f,first) <- holding [ov] (getMethod ov m pl)
   callWith pos f first (backTo pos (starEach args X.env)) (backToKw pos (keywordEach [] X.env)))) :
  wpAny (model X.prog X.w) X.A (eval (.Call (.Attribute e m apos) args [] pos) X.env) Q X.xe s:=by
 refine PySem.W.methodCall_KW (pl:=pl) (bI (he pins s σ H _ I h) fun u s1 ⟨x,H1,I1,rx,a,C,dx,fs,g,ex,ea,c,k,l,q⟩=>?_) ht
 subst ex
 obtain rfl:u=Value.ref a:=rx
 exact yR I1 ea c k l (q s1 I1)
end
section
variable {X:Cx} {pins:List (Addr × Obj)} {σ:St} {H:Hp} {s:Shared} {A:Around} {E:Value->Shared->Prop} {Q:Value->Shared->Prop} {c:Value} {b:Bool}
end
structure dC (k:Nat) (A:Around):Prop where
 hd:A.handled=none
 dp:A.depth + 3 * k + 5 < recursionLimit
 un:A.units + 16 * k + 200 < cLine
theorem dC.mono {j k:Nat} {A:Around} (r:dC k A) (h:j<=k):dC j A:=⟨r.hd,by have:=r.dp;omega,by have:=r.un;omega⟩
theorem dC.deeper {k:Nat} {A:Around} (r:dC (k + 1) A) (env:Env):dC k (A.deeper env) :=
 ⟨r.hd,by have:=r.dp;show A.depth + 1 + 3 * k + 5 < _;omega,by have:=r.un;show A.units + 3 + 16 * k + 200 < _;omega⟩
theorem Ga {A:Around} {C:Addr} {us:List Value} {kw:List (Str × Value)}:(A.under (.builtin "type.__call__" ⟨.ref C :: us,kw⟩)).depth=A.depth + 1:=by
 first | rfl | simp [Around.under,Code.weight,Code.isCreation,Code.isGuard,Code.isCaller,Code.frames,Code.isFrame,guardIds]
theorem FZ {A:Around} {C:Addr} {us:List Value} {kw:List (Str × Value)}:(A.under (.builtin "type.__call__" ⟨.ref C :: us,kw⟩)).units=A.units + 1:=by
 first | rfl | simp [Around.under,Code.cUnits,Code.frames,Code.isFrame]
theorem dC.make {k:Nat} {A:Around} (r:dC (k + 1) A) (C:Addr) (us:List Value) (kw:List (Str × Value)):dC k (A.under (.builtin "type.__call__" ⟨.ref C :: us,kw⟩)) :=
 ⟨r.hd,by have:=r.dp;rw [Ga];omega,by have:=r.un;rw [FZ];omega⟩
theorem dC.depth {k:Nat} {A:Around} (r:dC k A):A.depth < recursionLimit:=by have:=r.dp;omega
theorem dC.units {k:Nat} {A:Around} (r:dC k A):A.units + 64 < cLine:=by have:=r.un;omega
theorem dC.units0 {k:Nat} {A:Around} (r:dC k A):A.units < cLine:=by have:=r.un;omega
def Pg:TA:=fun _ H Q=>Q [] H
def LW (ta:TE) (tr:TA):TA:=fun σ H Q=>ta σ H fun x H1=>tr σ H1 fun xs H2=>Q (x :: xs) H2
section
variable {X:Cx} {e:Expr} {es:List Expr} {te:TE} {t:TA} {pos:Pos}
theorem OK:PA X [] Pg:=fun _ _ _ _ H Q I h=>Calls.spliced_nil ⟨[],H,I,.nil,h⟩
theorem Om (ha:PE X e te) (hr:PA X es t) (hs:starEach (e :: es) X.env=(false,eval e X.env) :: starEach es X.env:=by rfl):PA X (e :: es) (LW te t):=by
 intro pos pins s σ H Q I h
 rw [hs]
 show wpAny _ _ (spliced ((false,eval e X.env) :: backTo pos (starEach es X.env))) _ _ s
 refine Calls.spliced_cons (bI (ha pins s σ H _ I h) fun u s1 ⟨x,H1,I1,r1,q1⟩=>?_)
 exact bI (hr pos pins s1 σ H1 _ I1 q1) fun us s2 ⟨xs,H2,I2,r2,q2⟩=>⟨x :: xs,H2,I2,.cons r1 r2,q2⟩
def Pm (t:TA):TE:=fun σ H Q=>t σ H fun xs H1=>xs.length<=sizeLine/\∀ p,H1 p=none->Q (.ref p) (upd H1 p (.tup xs))
def O2 (t:TA):TE:=fun σ H Q=>t σ H fun xs H1=>xs.length<=sizeLine/\∀ p,H1 p=none->Q (.ref p) (upd H1 p (.lst xs))
theorem QM {x1} (h:PA X es t):PE X (.Tuple es x1 pos) (Pm t):=by
 intro pins s σ H Q I hq
 refine wpAny_Tuple_spliced (bI (h pos pins s σ H _ I hq) fun us s1 ⟨xs,H1,I1,r,z,q⟩=>⟨by rw [<- r.length];exact z,?_⟩)
 have hf:H1 s1.heap.objs.size=none:=I1.hok.fresh (Nat.le_refl _)
 refine ⟨.ref s1.heap.objs.size,upd H1 s1.heap.objs.size (.tup xs),I1.laid (t':=s1.toks) (fun b u e=>Heap.get?_push_of_some _ e) (Nat.le_refl _) ?_,rfl,q _ hf⟩
 exact ⟨z,us,r,⟨_,Heap.get?_push_size _ rfl,rfl,rfl,_,rfl⟩⟩
theorem Pz (h:PA X es t):PE X (.List es pos) (O2 t):=by
 intro pins s σ H Q I hq
 refine wpAny_List_spliced (bI (h pos pins s σ H _ I hq) fun us s1 ⟨xs,H1,I1,r,z,q⟩=>⟨by rw [<- r.length];exact z,?_⟩)
 have hf:H1 s1.heap.objs.size=none:=I1.hok.fresh (Nat.le_refl _)
 refine ⟨.ref s1.heap.objs.size,upd H1 s1.heap.objs.size (.lst xs),I1.laid (t':=s1.toks) (fun b u e=>Heap.get?_push_of_some _ e) (Nat.le_refl _) ?_,rfl,q _ hf⟩
 exact ⟨z,us,0,r,Heap.get?_push_size _ rfl⟩
end
abbrev Sp:=List V->Hp->VK->XK->Prop
abbrev wL:=List Env->Hp->Shared->XK->Value->Shared->Prop
structure uS (P:Program) (w:World) (K:PySem.W.Frag) (mg:Str->Option Value) (base:Heap) (A:Around) (outer:List Env) (s:Shared) (H:Hp):Prop where
 frames:A.frames=some outer
 mod:Mod K mg base
 bs:∀ b o,base.get? b=some o->s.heap.get? b=some o/\H b=none
 bsz:base.objs.size<=s.heap.objs.size
 funs:s.heap.FunFrames base outer
 frf:∀ b∈iU outer,H b=none
 hok:fR P w H s.heap
 bare:AllBare s.gens
def CE (outer:List Env) (P:Program) (w:World) (H:Hp) (s:Shared) (Q:VK) (u:Value) (s':Shared):Prop :=
 ∃ v H',s'.os=s.os/\AllBare s'.gens/\Un (iU outer) [] H H' s.heap s'.heap/\fR P w H' s'.heap/\RelV v u/\Q v H'
def CR (CX:wL) (outer:List Env) (P:Program) (w:World) (H:Hp) (s:Shared) (Q:VK) (E:XK) (r:Result) (s':Shared):Prop :=
 match r with
 | .ok (.ret u)=>CE outer P w H s Q u s'
 | .ok _=>False
 | .error e=>CX outer H s E e s'
structure fF (P:Program) (w:World) (K:PySem.W.Frag) (mg:Str->Option Value) (base:Heap) (CX:wL) (k:Nat) (f:Addr) (fd:FuncData) (ps:List Str) (sp:Sp):Prop where
 len:∀ vs H Q E,sp vs H Q E->vs.length=ps.length
 run:∀ (A:Around) (outer:List Env) (s:Shared) (H:Hp) (args:Args) (us:List Value) (vs:List V) (Q:VK) (E:XK),dC k A->uS P w K mg base A outer s H->BindsTo s fd args (ps.zip us)->Vals vs us->sp vs H Q E ->
  codeAny (model P w) A (.call (.ref f) args) (CR CX outer P w H s Q E) s
theorem uS.make {P:Program} {w:World} {K:PySem.W.Frag} {mg:Str->Option Value} {base:Heap} {A:Around} {outer:List Env} {s:Shared} {H:Hp} (e:uS P w K mg base A outer s H) (C:Addr) (us:List Value) (kw:List (Str × Value)) :
  uS P w K mg base (A.under (.builtin "type.__call__" ⟨.ref C :: us,kw⟩)) outer s H:=⟨by first | exact e.frames | (simpa [Around.under,Code.envs,Code.isFrame,pushEnvs] using e.frames),e.mod,e.bs,e.bsz,e.funs,e.frf,e.hok,e.bare⟩
section
variable {X:Cx} {pins:List (Addr × Obj)} {σ:St} {H:Hp} {s s':Shared}
theorem Inv.env0 (I:Inv X pins σ H s):uS X.prog X.w X.K X.mg X.base X.A X.stack s H :=
 ⟨I.ok.frames,I.ok.mod,I.bs,Nat.le_trans I.ok.bsz I.sz,I.stack,I.stkFree,I.hok,I.bare⟩
theorem Inv.after {Q:VK} {u:Value} (I:Inv X pins σ H s) (h:CE X.stack X.prog X.w H s Q u s'):EP X pins σ Q u s':=by
 obtain ⟨v,H',os,bare,un,hok,r,q⟩:=h
 obtain ⟨hh,g,d,t,os'⟩:=s'
 obtain rfl:os'=s.os:=os
 exact ⟨v,H',I.call (h':=hh) (g':=g) (d':=d) (t':=t) (ch:=[]) un hok bare (fun b z=>absurd z (by simp)),r,q⟩
end
def GJ (sp:Sp) (dvs:List V) (E:XK) (t:TA):TE:=fun σ H Q=>t σ H fun vs H1=>sp (vs++dvs) H1 Q E
def Gq (C:Addr) (m:Str) (sp:Sp) (dvs:List V) (E:XK) (ta:TE) (t:TA):TE:=fun σ H Q=>ta σ H fun x H1=>∃ a dx fs,x=.ref a/\H1 a=some (.ins C dx fs)/\fs.lookup m=none /\
 t σ H1 fun vs H2=>sp (x :: (vs++dvs)) H2 Q E
def Gm (C:Addr) (sp:Sp) (dvs:List V) (E:XK) (t:TA):TE:=fun σ H Q=>t σ H fun vs H1=>∀ x dx,H1 x=none->H1 dx=none->dx≠x ->
 sp (.ref x :: (vs++dvs)) (upd (upd H1 dx (.own x)) x (.ins C dx [])) (fun v H2=>v=.non/\Q (.ref x) H2) E
def Binds (K:PySem.W.Frag) (fd:FuncData) (ps:List Str) (ds:List Value):Prop :=
 ∀ (s:Shared) (us:List Value),K.In s.heap->(us++ds).length=ps.length->BindsTo s fd ⟨us,[]⟩ (ps.zip (us++ds))
theorem Binds.all {K:PySem.W.Frag} {fd:FuncData} {ps:List Str} (h:∀ us:List Value,us.length=ps.length->bindArgs fd ⟨us,[]⟩=pure (ps.zip us)):Binds K fd ps []:=fun s us _ hl=>by
 rw [List.append_nil] at hl ⊢
 exact .of_eq (h us hl)
def Passes (CX:wL) (X:Cx) (E:XK):Prop:=∀ (pins:List (Addr × Obj)) (σ:St) (H:Hp) (s:Shared) (e:Value) (s':Shared),Inv X pins σ H s->CX X.stack H s E e s'->X.xe e s'
section
variable {X:Cx} {CX:wL} {k:Nat} {f C:Addr} {fd:FuncData} {ps:List Str} {sp:Sp} {dvs:List V} {ds:List Value} {E:XK} {x m:Str} {p pos apos:Pos} {e o:Expr} {es:List Expr} {ta:TE} {t:TA}
theorem y8 {pins:List (Addr × Obj)} {σ:St} {H:Hp} {s:Shared} {Q:VK} {us:List Value} {vs:List V} (F:fF X.prog X.w X.K X.mg X.base CX k f fd ps sp) (hr:dC k X.A) (hb:Binds X.K fd ps ds) (hd:Vals dvs ds) (hx:Passes CX X E)
  (I:Inv X pins σ H s) (r:Vals vs us) (h:sp (vs++dvs) H Q E):wpAny (model X.prog X.w) X.A (call (.ref f) us) (EP X pins σ Q) X.xe s:=by
 have r2:Vals (vs++dvs) (us++ds):=r.append hd
 have hl:(us++ds).length=ps.length:=by rw [<- r2.length];exact F.len _ _ _ _ h
 refine wpAny_call (codeAny_mono (F.run X.A X.stack s H ⟨us,[]⟩ (us++ds) (vs++dvs) Q E hr I.env0 (hb s us I.kIn hl) r2 h) fun r s' hq=>?_)
 cases r with
 | error e=>exact hx pins σ H s e s' I hq
 | ok fl =>
  cases fl with
  | ret u=>exact I.after hq
  | next=>exact False.elim hq
  | brk=>exact False.elim hq
  | cont=>exact False.elim hq
theorem Ol (F:fF X.prog X.w X.K X.mg X.base CX k f fd ps sp) (hr:dC k X.A) (hg:Gl X x) (hm:X.mg x=some (.ref f)) (hk:PySem.W.keepIn X.K (.ref f)=true) (hb:Binds X.K fd ps ds) (hd:Vals dvs ds) (hx:Passes CX X E)
  (ha:PA X (e :: es) t) (hdb:(x == ("__debug__":Str))=false:=by decide) (he:starEach (e :: es) X.env=(false,eval e X.env) :: starEach es X.env:=by rfl) (hpl:(backTo pos (starEach es X.env)).any (·.1)=false:=by rfl) :
  PE X (.Call (.Name x p) (e :: es) [] pos) (GJ sp dvs E t):=by
 intro pins s σ H Q I h
 refine wpAny_Call_Name_kw (vZ I hg hm ?_ hdb)
 refine PySem.W.callWith_K (h₀:=X.base) I.ok.mod.kin hk (bI (ha pos pins s σ H _ I h) fun us s1 ⟨vs,H1,I1,r,q⟩=>⟨I1.kIn,?_⟩) he hpl
 exact y8 F hr hb hd hx I1 r q
theorem Oa {pl:Sem Bool} (he:PE X o ta) (c:fQ X.K C) (hm:Meth X.K C m f) (F:fF X.prog X.w X.K X.mg X.base CX k f fd ps sp) (hr:dC k X.A) (hb:Binds X.K fd ps ds) (hd:Vals dvs ds) (hx:Passes CX X E) (ha:PA X (e :: es) t)
  (hst:starEach (e :: es) X.env=(false,eval e X.env) :: starEach es X.env:=by rfl) (hpl:(backTo pos (starEach es X.env)).any (·.1)=false:=by rfl)
  (ht:eval (.Call (.Attribute o m apos) (e :: es) [] pos) X.env=(do
   let ov <- eval o X.env
   standAt apos.atName
   let (f,first) <- holding [ov] (getMethod ov m pl)
   callWith pos f first (backTo pos (starEach (e :: es) X.env)) (backToKw pos (keywordEach [] X.env))):=by rfl) :
  PE X (.Call (.Attribute o m apos) (e :: es) [] pos) (Gq C m sp dvs E ta t):=by
 intro pins s σ H Q I h
 refine PySem.W.methodCall_KW (pl:=pl) (bI (he pins s σ H _ I h) fun u s1 ⟨x,H1,I1,rx,a,dx,fs,ex,ea,l,q⟩=>?_) ht
 subst ex
 obtain rfl:u=Value.ref a:=rx
 refine yR I1 ea c hm l ?_
 refine PySem.W.callWith_K (first:=[.ref a]) (h₀:=X.base) I.ok.mod.kin hm.kp (bI (ha pos pins s1 σ H1 _ I1 q) fun us s2 ⟨vs,H2,I2,r,q2⟩=>⟨I2.kIn,?_⟩) hst hpl
 exact y8 (us:=.ref a :: us) (vs:=.ref a :: vs) F hr hb hd hx I2 (.cons rfl r) q2
structure Mk (K:PySem.W.Frag) (C f:Addr):Prop where
 makes:PySem.W.makesIn K C=true
 init:PySem.W.findIn K (.ref C) "__init__"=some (some (.ref f))
 fn:PySem.W.isFn K (.ref f)=true
 kp:PySem.W.keepIn K (.ref C)=true
theorem K2 {pins:List (Addr × Obj)} {σ:St} {H:Hp} {s:Shared} {Q:VK} {us:List Value} {vs:List V} (M:Mk X.K C f) (F:fF X.prog X.w X.K X.mg X.base CX k f fd ps sp) (hr:dC (k + 1) X.A) (hb:Binds X.K fd ps ds) (hd:Vals dvs ds)
  (hx:Passes CX X E) (I:Inv X pins σ H s) (r:Vals vs us)
  (h:∀ x dx,H x=none->H dx=none->dx≠x->sp (.ref x :: (vs++dvs)) (upd (upd H dx (.own x)) x (.ins C dx [])) (fun v H2=>v=.non/\Q (.ref x) H2) E) :
  wpAny (model X.prog X.w) X.A (call (.ref C) us) (EP X pins σ Q) X.xe s:=by
 have hq:=h (s.heap.objs.size + 1) s.heap.objs.size (I.hok.fresh (Nat.le_succ _)) (I.hok.fresh (Nat.le_refl _)) (Nat.ne_of_lt (Nat.lt_succ_self _))
 have I2:=Inv.made (C:=C) I
 have r2:Vals (V.ref (s.heap.objs.size + 1) :: (vs++dvs)) (Value.ref (s.heap.objs.size + 1) :: (us++ds)):=.cons rfl (r.append hd)
 have hl:(Value.ref (s.heap.objs.size + 1) :: us++ds).length=ps.length:=by
  have e:=r2.length
  rw [F.len _ _ _ _ hq] at e
  exact e.symm
 refine wpAny_call (J3 (f:=f) I.kIn M.makes M.init (beq_iff_eq.mp M.fn) (codeAny_mono (F.run _ X.stack _ _ ⟨Value.ref (s.heap.objs.size + 1) :: us,[]⟩ (Value.ref (s.heap.objs.size + 1) :: (us++ds)) _ _ E (hr.make C us [])
  (I2.env0.make C us []) (hb _ (Value.ref (s.heap.objs.size + 1) :: us) I2.kIn hl) r2 hq) fun r s' hq'=>?_))
 cases r with
 | error e=>exact hx pins σ _ _ e s' I2 hq'
 | ok fl =>
  cases fl with
  | ret u =>
   obtain ⟨v,H',I3,rv,ev,q3⟩:=I2.after hq'
   subst ev
   exact ⟨rv,⟨V.ref (s.heap.objs.size + 1),H',I3,rfl,q3⟩⟩
  | next=>exact False.elim hq'
  | brk=>exact False.elim hq'
  | cont=>exact False.elim hq'
theorem OC (M:Mk X.K C f) (F:fF X.prog X.w X.K X.mg X.base CX k f fd ps sp) (hr:dC (k + 1) X.A) (hg:Gl X x) (hm:X.mg x=some (.ref C)) (hb:Binds X.K fd ps ds) (hd:Vals dvs ds) (hx:Passes CX X E)
  (ha:PA X (e :: es) t) (hdb:(x == ("__debug__":Str))=false:=by decide) (he:starEach (e :: es) X.env=(false,eval e X.env) :: starEach es X.env:=by rfl) (hpl:(backTo pos (starEach es X.env)).any (·.1)=false:=by rfl) :
  PE X (.Call (.Name x p) (e :: es) [] pos) (Gm C sp dvs E t):=by
 intro pins s σ H Q I h
 refine wpAny_Call_Name_kw (vZ I hg hm ?_ hdb)
 refine PySem.W.callWith_K (h₀:=X.base) I.ok.mod.kin M.kp (bI (ha pos pins s σ H _ I h) fun us s1 ⟨vs,H1,I1,r,q⟩=>⟨I1.kIn,?_⟩) he hpl
 exact K2 M F hr hb hd hx I1 r q
end
section
variable {X:Cx} {CX:wL} {k:Nat} {f C:Addr} {fd:FuncData} {ps ks:List Str} {sp:Sp} {E:XK} {x m:Str} {p pos apos kpos:Pos} {e o:Expr} {es:List Expr} {kws:List Keyword} {te ta:TE} {t tk:TA} {nm:Option Str}
variable {g:List Value->List Value->List Value} {gV:List V->List V->List V}
end
structure bA (N P:List Str) (sc:Scope):Prop where
 kind:sc.kind=.function
 co:sc.isCoroutine=false
 gen:sc.isGenerator=false
 nd:N.Nodup
 pre:N.take P.length=P
 par:∀ x∈P,sc.names.lookup x=some .local\/sc.names.lookup x=some .cell
 nofree:∀ y∈sc.names,y.2≠.free
theorem Bc {kindOf:Str->Option NameKind} {x:Str}:∀ {binds:List (Str × Value)} {m:Str->Option Value},(∀ v,(x,v) ∉ binds)->bindL kindOf binds m x=m x
 | [],_,_=>rfl
 | (n,v) :: r,m,h=>by
  unfold bindL
  rw [Bc fun w hw=>h w (List.mem_cons_of_mem _ hw)]
  split
  ·have:x≠n:=by rintro rfl;exact h v List.mem_cons_self
   simp [this]
  ·rfl
theorem A2 {kindOf:Str->Option NameKind} {x:Str}:∀ {binds:List (Str × Value)} {m:Str->Option Value},(∀ v,(x,v) ∉ binds)->bindC kindOf binds m x=m x
 | [],_,_=>rfl
 | (n,v) :: r,m,h=>by
  unfold bindC
  rw [A2 fun w hw=>h w (List.mem_cons_of_mem _ hw)]
  split
  ·rfl
  ·have:x≠n:=by rintro rfl;exact h v List.mem_cons_self
   simp [this]
theorem AV {kindOf:Str->Option NameKind} {x:Str} {v:Value}:∀ {P:List Str} {vs:List Value} {i:Nat} {m:Str->Option Value},P.Nodup->P[i]?=some x->vs[i]?=some v->kindOf x=some .local ->
  bindL kindOf (P.zip vs) m x=some v
 | [],_,_,_,_,h,_,_=>by simp at h
 | _ :: _,[],_,_,_,_,h,_=>by simp at h
 | p :: P,w :: vs,0,m,nd,h1,h2,hk=>by
  simp at h1 h2;subst h1;subst h2
  show bindL kindOf ((p,w) :: P.zip vs) m p=_
  unfold bindL
  rw [Bc fun v hv=>(List.nodup_cons.mp nd).1 (List.of_mem_zip hv).1,if_pos hk]
  simp
 | p :: P,w :: vs,i + 1,m,nd,h1,h2,hk=>by
  show bindL kindOf ((p,w) :: P.zip vs) m x=_
  unfold bindL
  exact AV (i:=i) (List.nodup_cons.mp nd).2 (by simpa using h1) (by simpa using h2) hk
theorem AS {kindOf:Str->Option NameKind} {x:Str} {v:Value}:∀ {P:List Str} {vs:List Value} {i:Nat} {m:Str->Option Value},P.Nodup->P[i]?=some x->vs[i]?=some v->kindOf x≠some .local ->
  bindC kindOf (P.zip vs) m x=some v
 | [],_,_,_,_,h,_,_=>by simp at h
 | _ :: _,[],_,_,_,_,h,_=>by simp at h
 | p :: P,w :: vs,0,m,nd,h1,h2,hk=>by
  simp at h1 h2;subst h1;subst h2
  show bindC kindOf ((p,w) :: P.zip vs) m p=_
  unfold bindC
  rw [A2 fun v hv=>(List.nodup_cons.mp nd).1 (List.of_mem_zip hv).1,if_neg hk]
  simp
 | p :: P,w :: vs,i + 1,m,nd,h1,h2,hk=>by
  show bindC kindOf ((p,w) :: P.zip vs) m x=_
  unfold bindC
  exact AS (i:=i) (List.nodup_cons.mp nd).2 (by simpa using h1) (by simpa using h2) hk
def start (N:List Str) (vs:List V):St:=vs.map some++List.replicate (N.length - vs.length) none
def Ag (CX:wL) (P:Program) (w:World) (K:PySem.W.Frag) (mg:Str->Option Value) (base:Heap) (N:List Str) (qual:Str) (scope:Scope) (f:Addr) (cd:Value) (A:Around) (outer:List Env) (s:Shared) (H:Hp) (E:XK):Cx where
 prog:=P
 w:=w
 K:=K
 mg:=mg
 base:=base
 A:=A.deeper (envOfC qual scope s.heap.objs.size f cd)
 N:=N
 s₀:=s
 H₀:=H
 env:=envOfC qual scope s.heap.objs.size f cd
 outer:=outer
 stack:=envOfC qual scope s.heap.objs.size f cd :: outer
 ex:=[]
 calm:=true
 fn:=fun _=>true
 pn:=[]
 xe:=fun e s'=>wpAny (model P w) (A.deeper (envOfC qual scope s.heap.objs.size f cd)) (leaving (envOfC qual scope s.heap.objs.size f cd) e) (fun _ s''=>CX outer H s E e s'') (fun e' s''=>CX outer H s E e' s'') s'
theorem Du {sc:Scope} {n:Nat} {x:Str} (h:sc.names.lookup x=some .cell):∃ c,(cellsFrom n sc.names []).lookup x=some c:=by
 have q:=PySem.W.cellsFrom_some sc.names n [] (.inl h)
 exact Option.isSome_iff_exists.mp q
theorem Hx {CX:wL} {P:Program} {w:World} {K:PySem.W.Frag} {mg:Str->Option Value} {base:Heap} {N ps:List Str} {qual:Str} {scope:Scope} {f:Addr} {cd:Value} {A:Around} {outer:List Env} {s s1:Shared} {H:Hp} {E:XK} {us:List Value} {vs:List V}
  (S:bA N ps scope) (hd:A.handled=none) (e0:uS P w K mg base A outer s H) (hl:vs.length=ps.length) (r:Vals vs us)
  (x:InCallC s s.heap.objs.size (bindL (envOfC qual scope s.heap.objs.size f cd).kindOf (ps.zip us) fun _=>none) (cellsFrom (s.heap.objs.size + 1) scope.names []) (bindC (envOfC qual scope s.heap.objs.size f cd).kindOf (ps.zip us) fun _=>none) s1) :
  Inv (Ag CX P w K mg base N qual scope f cd A outer s H E) [] (start N vs) H s1:=by
 have hpl:ps.length<=N.length:=by have:=congrArg List.length S.pre;rw [List.length_take] at this;omega
 obtain ⟨h1,tk,rfl,hk⟩:=x.done
 have noA:∀ b:Addr,b ∉ (Ag CX P w K mg base N qual scope f cd A outer s H E).ex:=fun b z=>absurd (show b∈([]:List Addr) from z) (by simp)
 refine ⟨⟨e0.mod,S.kind,rfl,rfl,Nat.le_refl _,fun y z c h1 h2=>?_,fun y hy=>?_,fun y c _ h=>?_,fun _=>hd,Around.frames_deeper e0.frames,.inr ⟨rfl,rfl⟩,fun b z=>absurd z (noA b),e0.bs,e0.bsz,fun b _ _=>noA b,fun b z=>absurd z (noA b),e0.funs,e0.frf⟩,
  rfl,e0.bare,Un.kept hk,⟨_,x.toInCall.ns,fun i y v h1 h2 h3=>?_⟩,fun y c h=>⟨_,x.cell y c h⟩,e0.hok.fresh (Nat.le_refl _),fun y c h=>?_,fun p hp=>absurd (show p∈([]:List (Addr × Obj)) from hp) (by simp),e0.hok.kept hk,?_⟩
 ·exact name_of_addr x.apart (PySem.mem_of_lookup h1) (PySem.mem_of_lookup h2)
 ·have hy:scope.names.lookup y=some .cell\/scope.names.lookup y=some .free:=hy
  rcases hy with hy | hy
  ·exact Du hy
  ·exact absurd rfl (S.nofree _ (PySem.mem_of_lookup hy))
 ·exact Nat.le_of_lt (x.above y c (PySem.mem_of_lookup h))
 ·have hi:i < vs.length:=by
   unfold start at h2
   by_cases hi:i < vs.length
   ·exact hi
   ·rw [List.getElem?_append_right (by simpa using hi)] at h2
    rw [List.getElem?_replicate] at h2
    split at h2 <;> cases h2
  have ha:vs[i]?=some v:=by
   unfold start at h2
   rw [List.getElem?_append_left (by simpa using hi),List.getElem?_map] at h2
   cases e:vs[i]? with
   | none=>rw [e] at h2;cases h2
   | some a=>rw [e] at h2;cases h2;rfl
  obtain ⟨u,hu,rv⟩:=r.get ha
  have hp:ps[i]?=some y:=by
   rw [<- S.pre,List.getElem?_take_of_lt (by omega)];exact h1
  have ndP:ps.Nodup:=by rw [<- S.pre];exact S.nd.sublist (List.take_sublist _ _)
  refine ⟨u,rv,?_⟩
  rcases S.par y (List.mem_of_getElem? hp) with k | k
  ·exact .inl ⟨k,AV ndP hp hu k⟩
  ·obtain ⟨c,e⟩:=Du (n:=s.heap.objs.size + 1) k
   refine .inr ⟨.inl k,c,e,?_⟩
   have q:=x.cell y c e
   rw [AS ndP hp hu (by show scope.names.lookup y≠_;rw [k];decide)] at q
   exact q
 ·exact e0.hok.fresh (Nat.le_of_lt (x.above y c (PySem.mem_of_lookup h)))
 ·unfold start
  show _=N.length
  rw [List.length_append,List.length_map,List.length_replicate]
  omega
theorem L8 {CX:wL} {P:Program} {w:World} {K:PySem.W.Frag} {mg:Str->Option Value} {base:Heap} {k:Nat} {f:Addr} {name qual:Str} {params:Arguments} {body:List Stmt} {scope:Scope} {dV kV doc pm cdv ct oc:Value} {an od:Option Addr}
  {osl:Array (Option Value)} {N ps:List Str} {sp:Sp} (lk:K.lookup f=some ⟨oc,od,.func (PySem.W.fnOf name qual params body scope dV kV doc pm an cdv ct),osl⟩) (hcd:PySem.W.codeIn K cdv qual=true) (S:bA N ps scope)
  (len:∀ vs H Q E,sp vs H Q E->vs.length=ps.length)
  (hbody:∀ (A:Around) (outer:List Env) (s:Shared) (H:Hp) (vs:List V) (Q:VK) (E:XK),dC k (A.deeper (envOfC qual scope s.heap.objs.size f cdv))->sp vs H Q E ->
   ∃ t,qK (Ag CX P w K mg base N qual scope f cdv A outer s H E) body t/\t { nx:=fun _ H'=>Q .non H',rt:=Q } (start N vs) H) :
  fF P w K mg base CX (k + 1) f (PySem.W.fnOf name qual params body scope dV kV doc pm an cdv ct) ps sp:=by
 refine ⟨len,fun A outer s H args us vs Q E hr e0 hb r hsp=>?_⟩
 have hl:=len _ _ _ _ hsp
 have KX:K.In s.heap:=e0.mod.kin.keeps fun b o e=>(e0.bs b o e).1
 have lim:s.heap.NoLimit:=e0.mod.nolimit.keeps fun b o e=>(e0.bs b o e).1
 have hkind:∀ y∈ps.zip us,scope.names.lookup y.1=some .local\/(scope.names.lookup y.1=some .cell/\((cellsFrom (s.heap.objs.size + 1) scope.names []).lookup y.1).isSome=true):=fun ⟨n,v⟩ hy=>by
  rcases S.par n (List.of_mem_zip hy).1 with q | q
  ·exact .inl q
  ·exact .inr ⟨q,PySem.W.cellsFrom_some _ _ _ (.inl q)⟩
 refine codeAny_call_function hr.depth (KX _ _ lk) rfl S.co S.gen rfl (PySem.W.codeRec_of KX hcd) (hb _ _ _ _ ?_)
 refine wpAny_newFunctionEnv_cells S.kind hkind fun env he s1 x=>?_
 subst he
 refine ⟨lim.keeps x.toInCall.keep,codeAny_func ?_⟩
 obtain ⟨t,ht,hq⟩:=hbody A outer s H vs Q E (hr.deeper _) hsp
 have I:Inv (Ag CX P w K mg base N qual scope f cdv A outer s H E) [] (start N vs) H s1:=Hx S hr.hd e0 hl r x
 refine wpAny_mono (ht [] s1 (start N vs) H _ I hq) (fun fl s' hs=>?_) fun e s' hs=>hs
 have fin:∀ {σ':St} {H':Hp} {v:V} {u:Value},Inv (Ag CX P w K mg base N qual scope f cdv A outer s H E) [] σ' H' s'->RelV v u->Q v H'->CE outer P w H s Q u s' :=
  fun {σ' H' v u} J rv q=>⟨v,H',J.os,J.bare,J.base,J.hok,rv,q⟩
 cases fl with
 | ret u =>
  obtain ⟨v,σ',H',J,rv,q⟩:=hs
  exact fin J rv q
 | next =>
  obtain ⟨σ',H',J,q⟩:=hs
  exact fin (v:=V.non) (u:=Value.none) J rfl q
 | brk =>
  obtain ⟨_,_,_,q⟩:=hs
  exact False.elim q
 | cont =>
  obtain ⟨_,_,_,q⟩:=hs
  exact False.elim q
section
variable {X:Cx} {x:Str} {p pos:Pos} {e:Expr} {es:List Expr} {t:TA} {id T:String} {r:List V->Hp->VK->Prop}
def OG (r:List V->Hp->VK->Prop) (t:TA):TE:=fun σ H Q=>t σ H fun vs H1=>r vs H1 Q
theorem Lq (hc:jN X (.builtin id) r) (hg:Gl X x) (hm:X.mg x=none) (hv:bootBuiltins x=some (.builtin id)) (ha:PA X (e :: es) t) (hn:x≠"__name__":=by decide) (hdb:(x == ("__debug__":Str))=false:=by decide)
  (he:starEach (e :: es) X.env=(false,eval e X.env) :: starEach es X.env:=by rfl) (hpl:(backTo pos (starEach es X.env)).any (·.1)=false:=by rfl):PE X (.Call (.Name x p) (e :: es) [] pos) (OG r t):=by
 intro pins s σ H Q I h
 refine wpAny_Call_Name_kw (rJ I hg hm hv ?_ hn hdb)
 exact PyProof.Rows.callWith_builtin1 (bI (ha pos pins s σ H _ I h) fun us s1 ⟨vs,H1,I1,r1,q1⟩=>hc pins s1 σ H1 vs us Q I1 r1 q1) he hpl
theorem Hb (hc:jN X (.type T) r) (hg:Gl X x) (hm:X.mg x=none) (hv:bootBuiltins x=some (.type T)) (ha:PA X (e :: es) t) (hn:x≠"__name__":=by decide) (hdb:(x == ("__debug__":Str))=false:=by decide)
  (he:starEach (e :: es) X.env=(false,eval e X.env) :: starEach es X.env:=by rfl) (hpl:(backTo pos (starEach es X.env)).any (·.1)=false:=by rfl):PE X (.Call (.Name x p) (e :: es) [] pos) (OG r t):=by
 intro pins s σ H Q I h
 refine wpAny_Call_Name_kw (rJ I hg hm hv ?_ hn hdb)
 exact PyProof.Rows.callWith_type1 (bI (ha pos pins s σ H _ I h) fun us s1 ⟨vs,H1,I1,r1,q1⟩=>hc pins s1 σ H1 vs us Q I1 r1 q1) he hpl
end
end L2
namespace HT
open PySem PyProof.Rows
def lexLt:List Int->List Int->Bool
 | [],[]=>false
 | [],_ :: _=>true
 | _ :: _,[]=>false
 | x :: xs,y :: ys=>if x=y then lexLt xs ys else decide (x < y)
theorem Gu (x y:Int) (xs ys:List Int):lexLt (x :: xs) (y :: ys)=if x=y then lexLt xs ys else decide (x < y):=rfl
theorem BH:lexLt [] []=false:=rfl
theorem AI (y:Int) (ys:List Int):lexLt [] (y :: ys)=true:=rfl
theorem zW (x:Int) (xs:List Int):lexLt (x :: xs) []=false:=rfl
theorem Ky (A:Around) (s:Shared) (a:Int) (t:Tok) (c:Int) (u:Tok):∃ e,SeqAt.EqAt A s (.int a t) (.int c u) e/\(e=true ↔ a=c) :=
 ⟨(a == c),SeqAt.EqAt.int_int a t c u,by simp⟩
theorem Lw (A:Around) (s:Shared) (a:Int) (t:Tok) (c:Int) (u:Tok) (prog:Program) (w:World) (E:Value->Shared->Prop) (Q:Value->Shared->Prop) (h:Q (.bool (decide (a < c))) s) :
  wpAny (model prog w) A (richCompare .Lt (.int a t) (.int c u)) Q E s :=
 (PyProof.Rows.lt_int h:wpAny (model prog w) A (compareOp .Lt (.int a t) (.int c u)) Q E s)
section
open PySem.SeqAt
open PySem.AutoSeq1 (wpAny_loadPart')
open PySem.MeetsSeq PySem.MeetsSeq2 PySem.MeetsSeq3
theorem Bk (l b:Addr) (items items2:Array Value) (n n2:Nat) (dd dd2:Option Addr) (sl sl2:Array (Option Value)) (ns ms:List Int) (hi:IntsAre items.toList ns) (hj:IntsAre items2.toList ms) :
  Meets (Builtin.«tuple.__lt__» ⟨[.ref l,.ref b],[]⟩)
   (fun _ R s=>s.heap.get? l=some { cls:=.type "tuple",dict:=dd,data:=.seq items n,slots:=sl }/\s.heap.get? b=some { cls:=.type "tuple",dict:=dd2,data:=.seq items2 n2,slots:=sl2 } /\
    R (.ok (.ret (.bool (lexLt ns ms)))) s) :=
 .of_wp fun prog w A R s h=>by
  obtain ⟨hp,g,d,tk,os⟩:=s;obtain ⟨hl,hb,h⟩:=h
  have f2:=AutoSeq1.sub_tuple_tuple
  have z1:items.size=ns.length:=by rw [<- hi.length];simp
  have z2:items2.size=ms.length:=by rw [<- hj.length];simp
  wp_walk using wpAny_loadPart' hl,wpAny_loadPart' hb,wpAny_forIn_list _ (fun rest b s'=>b.1=none/\s'=⟨hp,g,d,tk,os⟩/\∃ (vs ws:List Value) (ns' ms':List Int),rest=vs.zip ws /\
   IntsAre vs ns'/\IntsAre ws ms'/\ns'.length + items2.size=ms'.length + items.size/\R (.ok (.ret (.bool (lexLt ns' ms')))) ⟨hp,g,d,tk,os⟩) _
  case turn =>
   rintro ⟨y,x⟩ rest b s' ⟨hb',rfl,vs,ws,ns',ms',hz,hvi,hwi,hlen,hR⟩
   cases hvi with
   | nil=>rw [List.zip_nil_left] at hz;cases hz
   | cons a t hvi' =>
    cases hwi with
    | nil=>rw [List.zip_nil_right] at hz;cases hz
    | cons c u hwi' =>
     rw [List.zip_cons_cons] at hz
     injection hz with hyx hrest
     injection hyx with hy hx
     subst hy hx
     rw [Gu] at hR
     simp only [List.length_cons] at hlen
     obtain ⟨e,he,hiff⟩:=Ky A.in1 ⟨hp,g,d,tk,os⟩ a t c u
     refine wpAny_bind (he prog w _ _ ?_)
     cases e with
     | true =>
      rw [if_pos (hiff.mp rfl)] at hR
      wp_walk
      exact ⟨rfl,rfl,_,_,_,_,hrest,hvi',hwi',by omega,hR⟩
     | false =>
      rw [if_neg (fun q=>absurd (hiff.mpr q) Bool.false_ne_true)] at hR
      have hri:=Lw A.in1 ⟨hp,g,d,tk,os⟩ a t c u prog w
      wp_walk using hri
      exact ⟨_,rfl,by simpa using hR⟩
  case fin =>
   rintro ⟨b1,b2⟩ s' ⟨hb',rfl,vs,ws,ns',ms',hz,hvi,hwi,hlen,hR⟩
   simp only at hb'
   subst hb'
   have hv:lexLt ns' ms'=decide (items.size < items2.size):=by
    cases hvi with
    | nil =>
     cases hwi with
     | nil =>
      simp only [List.length_nil] at hlen
      rw [BH]
      exact (decide_eq_false (by omega)).symm
     | cons c u hw =>
      simp only [List.length_nil,List.length_cons] at hlen
      rw [AI]
      exact (decide_eq_true (by omega)).symm
    | cons a t hv =>
     cases hwi with
     | nil =>
      simp only [List.length_nil,List.length_cons] at hlen
      rw [zW]
      exact (decide_eq_false (by omega)).symm
     | cons c u hw =>
      rw [List.zip_cons_cons] at hz
      cases hz
   rw [hv] at hR
   wp_walk
   exact ⟨_,rfl,by simpa [Builtin.Tuple.tupleCompareSizes] using hR⟩
  case h =>
   exact ⟨rfl,rfl,items.toList,items2.toList,ns,ms,rfl,hi,hj,by omega,h⟩
end
section
variable {prog:Program} {w:World} {A:Around} {E:Value->Shared->Prop} {s:Shared}
theorem Gh {l b:Addr} {items items2:Array Value} {ns ms:List Int} {Q:Value->Shared->Prop} (hl:IsTup s.heap l items) (hb:IsTup s.heap b items2) (hi:IntsAre items.toList ns) (hj:IntsAre items2.toList ms)
  (hu:A.units < cLine) (h:Q (.bool (lexLt ns ms)) s):wpAny (model prog w) A (compareOp .Lt (.ref l) (.ref b)) Q E s:=by
 obtain ⟨⟨cls,dd,data,sl⟩,ho,hc,n,hd⟩:=id hl
 obtain ⟨⟨cls2,dd2,data2,sl2⟩,ho2,hc2,n2,hd2⟩:=id hb
 simp only at hc hd hc2 hd2
 subst hc hd hc2 hd2
 exact richCompare_meets_room (op:=.Lt) ⟨_,ho,rfl⟩ ⟨_,ho2,rfl⟩ PySem.F.slot_tuple_lt PySem.F.entry_tuple_lt (PySem.F.args_tuple_lt_2 _ _) (Bk l b items items2 n n2 dd dd2 sl sl2 ns ms hi hj)
  ⟨ho,ho2,show Value.bool (lexLt ns ms)≠Value.notImplemented/\Q (.bool (lexLt ns ms)) s from ⟨(fun x=>nomatch x),h⟩⟩ hu
theorem OA {t b:Addr} {vs ws:List Value} {Q:Value->Shared->Prop} (ht:IsTup s.heap t vs.toArray) (hb:IsTup s.heap b ws.toArray) (hv:vs≠[])
  (h1:ws=[]->Q (.ref t) s) (h2:ws≠[]->Q (.ref s.heap.objs.size) { s with heap:=s.heap.push { cls:=.type "tuple",data:=.seq (vs++ws).toArray } })
  (hsz:vs.length + ws.length<=sizeLine):wpAny (model prog w) A (binaryOp .Add (.ref t) (.ref b)) Q E s:=by
 obtain ⟨⟨cls,dd,data,sl⟩,ho,hc,n,hd⟩:=id ht
 obtain ⟨⟨cls2,dd2,data2,sl2⟩,ho2,hc2,n2,hd2⟩:=id hb
 simp only at hc hd hc2 hd2
 subst hc hd hc2 hd2
 have e:vs.toArray++ws.toArray=(vs++ws).toArray:=by simp
 by_cases hw:ws=[]
 ·exact concat_meets ⟨_,ho,rfl⟩ ⟨_,ho2,rfl⟩ noFill_tuple_add seq_tuple_add PySem.F.slot_tuple_add PySem.F.entry_tuple_add (PySem.F.args_tuple_add_2 _ _)
   (tuple_addW1 t b vs.toArray ws.toArray n n2 dd dd2 sl sl2 (by simpa using hv) (by simp [hw])) ⟨ho,ho2,h1 hw⟩
 ·refine concat_meets ⟨_,ho,rfl⟩ ⟨_,ho2,rfl⟩ noFill_tuple_add seq_tuple_add PySem.F.slot_tuple_add PySem.F.entry_tuple_add (PySem.F.args_tuple_add_2 _ _)
   (tuple_addW2 t b vs.toArray ws.toArray n n2 dd dd2 sl sl2 (by simpa using hv) (by simpa using hw) (by rw [List.size_toArray,List.size_toArray];exact hsz)) ⟨ho,ho2,?_⟩
  rw [e]
  exact h2 hw
def bK (n d:Nat):Option Int->Nat
 | none=>d
 | some v=>if v < 0 then (v + (n:Int)).toNat else min v.toNat n
theorem Qz (n d:Nat) (hd:d<=n) (o:Option Int):bK n d o<=n:=by
 cases o with
 | none=>exact hd
 | some v =>
  show (if v < 0 then (v + (n:Int)).toNat else min v.toNat n)<=n
  by_cases hv:v < 0
  ·rw [if_pos hv];omega
  ·rw [if_neg hv];exact Nat.min_le_right _ _
theorem ED (v:Int) (n d:Nat):(if v < 0 then max (v + (n:Int)) 0 else min v (n:Int))=((bK n d (some v):Nat):Int):=by
 show (if v < 0 then max (v + (n:Int)) 0 else min v (n:Int))=(((if v < 0 then (v + (n:Int)).toNat else min v.toNat n):Nat):Int)
 by_cases hv:v < 0
 ·simp only [if_pos hv];omega
 ·simp only [if_neg hv];omega
theorem Gf (lo hi:Option Int) (n:Nat):Builtin.Slice.sliceAdjust lo hi 1 (n:Int)=(((bK n 0 lo:Nat):Int),((bK n n hi:Nat):Int)):=by
 have h1:¬ ((1:Int) < 0):=by omega
 unfold Builtin.Slice.sliceAdjust
 simp only [h1,if_false]
 refine Prod.ext ?_ ?_
 ·cases lo with
  | none=>rfl
  | some v=>exact ED v n 0
 ·cases hi with
  | none=>rfl
  | some v=>exact ED v n n
theorem F4 (i j:Nat):Builtin.Slice.slicePlaces (i:Int) (j:Int) 1=j - i:=by
 unfold Builtin.Slice.slicePlaces
 have h1:(1:Int) > 0:=by omega
 simp only [h1,if_true,Int.ediv_one]
 split <;> omega
theorem yI {v:Value} {o:Option Int} {Q:Option Int->Shared->Prop} (p:IsPart v o) (h:Q o s):wpAny (model prog w) A (Builtin.Slice.slicePartIndex v) Q E s:=by
 cases p with
 | none=>exact slicePart_none h
 | int i t=>exact slicePart_int h
theorem pQ {sl:Addr} {vl vu:Value} {lo hi:Option Int} {n:Nat} {Q:Int × Int × Nat->Shared->Prop} (hs:s.heap.IsSliceOf sl vl vu .none) (pl:IsPart vl lo) (pu:IsPart vu hi)
  (h:Q (((bK n 0 lo:Nat):Int),1,bK n n hi - bK n 0 lo) s):wpAny (model prog w) A (Builtin.Slice.sliceApplied (.ref sl) (pure (n:Int))) Q E s:=by
 obtain ⟨os,hos,hcs,hds⟩:=id hs
 unfold Builtin.Slice.sliceApplied Builtin.Slice.sliceFields
 refine wpAny_bind (wpAny_bind (wpAny_field hos hds (x:=vl) rfl (wpAny_bind (wpAny_field hos hds (x:=vu) rfl (wpAny_bind (wpAny_field hos hds (x:=.none) rfl (wpAny_pure ?_)))))))
 refine wpAny_bind (slicePart_none ?_)
 show wpAny _ _ (if ((1:Int) == 0)=true then _ else _) _ _ s
 rw [if_neg (by decide)]
 refine wpAny_bind (yI pl (wpAny_bind (yI pu (wpAny_bind (wpAny_pure ?_)))))
 show wpAny _ _ (match Builtin.Slice.sliceAdjust lo hi 1 (n:Int) with | (lo,hi)=>pure (lo,(1:Int),Builtin.Slice.slicePlaces lo hi 1)) _ _ s
 rw [Gf lo hi n]
 show wpAny _ _ (pure (((bK n 0 lo:Nat):Int),(1:Int),Builtin.Slice.slicePlaces ((bK n 0 lo:Nat):Int) ((bK n n hi:Nat):Int) 1)) _ _ s
 rw [F4]
 exact wpAny_pure h
theorem KN (xs:Array Value) (i k:Nat):((List.range k).filterMap fun (m:Nat)=>xs[((i:Int) + (m:Int) * 1).toNat]?).toArray=((xs.toList.drop i).take k).toArray:=by
 have e:(fun (m:Nat)=>xs[((i:Int) + (m:Int) * 1).toNat]?)=fun m=>xs[i + m]?:=by
  funext m
  have:((i:Int) + (m:Int) * 1).toNat=i + m:=by omega
  rw [this]
 rw [e]
 have:=pick_run xs i k
 rw [List.filterMap_map] at this
 have e2:((fun x=>xs[x]?) ∘ fun x=>i + x)=fun m=>xs[i + m]?:=rfl
 rw [e2] at this
 rw [this]
theorem v9 {t sl:Addr} {items:Array Value} {vl vu:Value} {lo hi:Option Int} {Q:Value->Shared->Prop} (ht:IsTup s.heap t items) (hs:s.heap.IsSliceOf sl vl vu .none) (pl:IsPart vl lo) (pu:IsPart vu hi)
  (hw:¬ (bK items.size 0 lo=0/\bK items.size items.size hi=items.size))
  (h:Q (.ref s.heap.objs.size) { s with heap:=s.heap.push { cls:=.type "tuple",data:=.seq ((items.toList.drop (bK items.size 0 lo)).take (bK items.size items.size hi - bK items.size 0 lo)).toArray } })
  (hsz:items.size<=sizeLine):wpAny (model prog w) A (getItem (.ref t) (.ref sl)) Q E s:=by
 have htake:sizeOk (.seq ((items.toList.drop (bK items.size 0 lo)).take (bK items.size items.size hi - bK items.size 0 lo)).toArray):=by
  show ((items.toList.drop (bK items.size 0 lo)).take (bK items.size items.size hi - bK items.size 0 lo)).toArray.size<=sizeLine
  rw [List.size_toArray,List.length_take,List.length_drop,Array.length_toList]
  omega
 have hj:bK items.size items.size hi<=items.size:=Qz _ _ (Nat.le_refl _) hi
 obtain ⟨os,hos,hcs,hds⟩:=id hs
 have hTs:s.TypeIs (.ref sl) "slice":=⟨os,hos,hcs⟩
 unfold getItem
 try with_reducible refine wpAny_holding ?_
 first | refine wpAny_bind (wpAny_pure ?_) | skip
 refine wpAny_bind (wpAny_sequenceKey ht.typeIs (by decide) ?_)
 refine wpAny_bind (wpAny_callSpecial?_slot (name:=Str.ofString "__getitem__") ht.typeIs PyProof.Rows.slot_tuple_getitem
  (wpAny_call_entry PyProof.Rows.slot_tuple_getitem ht.typeIs entry_tuple_getitem ?_ (args_tuple_getitem _ _)))
 show wpAny _ _ (Builtin.Tuple.tupleItemsOf (.ref t) >>= _) _ _ s
 refine wpAny_bind (tupleItemsOf_ ht ?_)
 refine wpAny_bind (wpAny_typeOf hTs ?_)
 rw [if_pos (by decide)]
 refine wpAny_bind (pQ hs pl pu ?_)
 have hno:¬ ((((bK items.size 0 lo:Nat):Int) == 0 && (1:Int) == 1 && (bK items.size items.size hi - bK items.size 0 lo) == items.size)=true):=by
  intro q
  rw [Bool.and_eq_true,Bool.and_eq_true] at q
  have q1:((bK items.size 0 lo:Nat):Int)=0:=eq_of_beq q.1.1
  have q2:bK items.size items.size hi - bK items.size 0 lo=items.size:=eq_of_beq q.2
  exact hw ⟨by omega,by omega⟩
 show wpAny _ _ (if (((bK items.size 0 lo:Nat):Int) == 0 && (1:Int) == 1 && (bK items.size items.size hi - bK items.size 0 lo) == items.size)=true then _ else _) _ _ s
 rw [if_neg hno,KN]
 first
  | exact wpAny_bind (m:=Builtin.Tuple.tupleExact _) (wpAny_newObj_type (wpAny_pure ⟨_,rfl,wpAny_pure h⟩) htake)
  | exact wpAny_bind (m:=Builtin.Tuple.tupleExact _) (wpAny_newObj_type (wpAny_bind (wpAny_pure (wpAny_pure ⟨_,rfl,wpAny_pure h⟩))) htake)
  | exact wpAny_bind (wpAny_bind (m:=Builtin.Tuple.tupleExact _) (wpAny_newObj_type (wpAny_pure (wpAny_pure ⟨_,rfl,wpAny_pure h⟩)) htake))
  | exact wpAny_bind (wpAny_bind (m:=Builtin.Tuple.tupleExact _) (wpAny_newObj_type (wpAny_pure ⟨_,rfl,wpAny_pure h⟩) htake))
end
end HT
namespace L2
open PySem PySem.Spec PyProof.Rows
abbrev TO:=St->Hp->(Option Int->Hp->Prop)->Prop
def PO (X:Cx) (e:Option Expr) (t:TO):Prop :=
 ∀ (pins:List (Addr × Obj)) (s:Shared) (σ:St) (H:Hp) (Q:Option Int->Hp->Prop),Inv X pins σ H s->t σ H Q ->
  wpAny (model X.prog X.w) X.A (evalPart e X.env) (fun u s'=>∃ o H',Inv X pins σ H' s'/\IsPart u o/\Q o H') X.xe s
def EO:TO:=fun _ H Q=>Q none H
def LV (t:TE):TO:=fun σ H Q=>t σ H fun x H1=>∃ i,x=.int i/\Q (some i) H1
theorem intsAre_of {ns:List Int}:∀ {us:List Value},Vals (ns.map V.int) us->IntsAre us ns:=by
 induction ns with
 | nil=>intro us r;rw [List.map_nil] at r;cases r;exact .nil
 | cons n ns ih =>
  intro us r
  rw [List.map_cons] at r
  cases r with
  | cons r1 r2 =>
   obtain ⟨t,e⟩:=r1
   subst e
   exact .cons n t (ih r2)
section
variable {X:Cx} {e:Expr} {te:TE} {lo hi:Option Expr} {tl th:TO} {pos p2:Pos}
theorem Oo:PO X none EO:=by
 intro pins s σ H Q I h
 rw [evalPart_none]
 exact wpAny_pure ⟨none,H,I,.none,h⟩
theorem MH (h:PE X e te):PO X (some e) (LV te):=by
 intro pins s σ H Q I hw
 rw [evalPart_some]
 refine bI (h pins s σ H _ I hw) fun u s1 ⟨x,H1,I1,r1,q1⟩=>?_
 obtain ⟨i,rfl,q⟩:=q1
 obtain ⟨t,rfl⟩:=r1
 exact ⟨some i,H1,I1,.int i t,q⟩
def wN (X:Cx) (r:V->Option Int->Option Int->Hp->VK->Prop):Prop :=
 ∀ (pins:List (Addr × Obj)) (s:Shared) (σ:St) (H:Hp) (x:V) (v vl vu:Value) (lo hi:Option Int) (sl:Addr) (Q:VK),Inv X pins σ H s->RelV x v->s.heap.IsSliceOf sl vl vu .none->IsPart vl lo->IsPart vu hi->r x lo hi H Q ->
  ∃ T id,typeLookup (.type T) "__getitem__"=pure (some (.builtin id))/\s.TypeIs v T/\wpAny (model X.prog X.w) X.A (getItem v (.ref sl)) (EP X pins σ Q) X.xe s
theorem wN.or {r r':V->Option Int->Option Int->Hp->VK->Prop} (h:wN X r) (h':wN X r'):wN X (fun x lo hi H Q=>r x lo hi H Q\/r' x lo hi H Q):=by
 intro pins s σ H x v vl vu lo hi sl Q I rx hs pl pu q
 rcases q with q | q
 ·exact h pins s σ H x v vl vu lo hi sl Q I rx hs pl pu q
 ·exact h' pins s σ H x v vl vu lo hi sl Q I rx hs pl pu q
def RM (r:V->Option Int->Option Int->Hp->VK->Prop) (te:TE) (tl th:TO):TE:=fun σ H Q=>te σ H fun x H1=>tl σ H1 fun l H2=>th σ H2 fun u H3=>r x l u H3 Q
theorem Kt {r:V->Option Int->Option Int->Hp->VK->Prop} (hr:wN X r) (he:PE X e te) (hl:PO X lo tl) (hu:PO X hi th):PE X (.Subscript e (.Slice lo hi none p2) pos) (RM r te tl th):=by
 intro pins s σ H Q I h
 refine Subscript_ (bI (he pins s σ H _ I h) fun v s1 ⟨x,H1,I1,r1,q1⟩=>?_)
 refine wpAny_Slice (bI (hl pins s1 σ H1 _ I1 q1) fun vl s2 ⟨l,H2,I2,pl,q2⟩=>bI (hu pins s2 σ H2 _ I2 q2) fun vu s3 ⟨u,H3,I3,pu,q3⟩=>?_)
 rw [evalPart_none]
 refine wpAny_pure ?_
 have I4:Inv X pins σ H3 { s3 with heap:=s3.heap.push { cls:=.type "slice",data:=.fields #[vl,vu,.none] } }:=I3.kept (t':=s3.toks) fun b ob q=>Heap.get?_push_of_some _ q
 obtain ⟨T,id,hT,ht,hg⟩:=hr pins { s3 with heap:=s3.heap.push { cls:=.type "slice",data:=.fields #[vl,vu,.none] } } σ H3 x v vl vu l u s3.heap.objs.size Q I4 r1 (Heap.IsSliceOf.new ..) pl pu q3
 show wpAny (model X.prog X.w) X.A (subscriptTail e (.Slice lo hi none p2) v (.ref s3.heap.objs.size)) (EP X pins σ Q) X.xe { s3 with heap:=s3.heap.push { cls:=.type "slice",data:=.fields #[vl,vu,.none] } }
 exact tail_any (ops:=[.ref s3.heap.objs.size,v]) ht hT hg (by with_unfolding_all rfl)
def qV (xs:List V) (lo hi:Option Int):List V:=(xs.drop (HT.bK xs.length 0 lo)).take (HT.bK xs.length xs.length hi - HT.bK xs.length 0 lo)
theorem wK (xs:List V) (lo hi:Option Int):(qV xs lo hi).length<=xs.length:=by
 unfold qV
 rw [List.length_take,List.length_drop]
 omega
def RO (K:PySem.W.Frag):V->Option Int->Option Int->Hp->VK->Prop:=fun x lo hi H Q=>∃ a xs,x=.ref a/\eP K H a xs /\
 ¬ (HT.bK xs.length 0 lo=0/\HT.bK xs.length xs.length hi=xs.length)/\∀ p,H p=none->Q (.ref p) (upd H p (.tup (qV xs lo hi)))
theorem Qy:wN X (RO X.K):=by
 intro pins s σ H x v vl vu lo hi sl Q I rx hs pl pu h
 obtain ⟨a,xs,rfl,hx,hw,q⟩:=h
 cases rx
 obtain ⟨its,r,ht,hz⟩:=I.tuple hx
 have hlen:its.toArray.size=xs.length:=by rw [List.size_toArray];exact r.length.symm
 refine ⟨"tuple",_,PyProof.Rows.slot_tuple_getitem.lookup,ht.typeIs,?_⟩
 refine HT.v9 ht hs pl pu (by rw [hlen];exact hw) ?_ (by rw [hlen];exact hz)
 rw [hlen]
 refine ⟨.ref s.heap.objs.size,_,I.laid (t':=s.toks) (o:=.tup (qV xs lo hi)) (fun b ob q=>Heap.get?_push_of_some _ q) (Nat.le_refl _) ?_,rfl,q _ (I.hok.fresh (Nat.le_refl _))⟩
 exact ⟨Nat.le_trans (wK xs lo hi) hz,_,(r.drop (HT.bK xs.length 0 lo)).take (HT.bK xs.length xs.length hi - HT.bK xs.length 0 lo),iO.new _ _⟩
def RY (K:PySem.W.Frag):R2:=fun x y H Q=>∃ a b ns ms,x=.ref a/\y=.ref b/\eP K H a (ns.map V.int)/\eP K H b (ms.map V.int)/\Q (.bl (HT.lexLt ns ms)) H
theorem PF (hu:X.A.units < cLine):dA X (compareOp .Lt) (RY X.K):=by
 intro pins s σ H x y v u Q I rx ry h
 obtain ⟨a,b,ns,ms,rfl,rfl,ha,hb,q⟩:=h
 cases rx
 cases ry
 obtain ⟨its,r1,p1,_⟩:=I.tuple ha
 obtain ⟨its2,r2,p2,_⟩:=I.tuple hb
 have i1:IntsAre its.toArray.toList ns:=intsAre_of r1
 have i2:IntsAre its2.toArray.toList ms:=intsAre_of r2
 exact HT.Gh p1 p2 i1 i2 hu ⟨.bl (HT.lexLt ns ms),H,I,rfl,q⟩
def QU (K:PySem.W.Frag):R2:=fun x y H Q=>∃ a b xs ys,x=.ref a/\y=.ref b/\eP K H a xs/\eP K H b ys/\xs≠[]/\xs.length + ys.length<=sizeLine /\
 (ys=[]->Q (.ref a) H)/\(ys≠[]->∀ p,H p=none->Q (.ref p) (upd H p (.tup (xs++ys))))
theorem Vals.nil_iff {xs:List V} {us:List Value} (r:Vals xs us):us=[] ↔ xs=[]:=by
 cases r with
 | nil=>simp
 | cons _ _=>simp
theorem OE:dA X (binaryOp .Add) (QU X.K):=by
 intro pins s σ H x y v u Q I rx ry h
 obtain ⟨a,b,xs,ys,rfl,rfl,ha,hb,hx,hz,q1,q2⟩:=h
 cases rx
 cases ry
 obtain ⟨its,r1,p1,_⟩:=I.tuple ha
 obtain ⟨its2,r2,p2,_⟩:=I.tuple hb
 refine HT.OA p1 p2 (fun z=>hx (r1.nil_iff.mp z)) (fun z=>⟨.ref a,H,I,rfl,q1 (r2.nil_iff.mp z)⟩) (fun z=>?_) (by rw [<- r1.length,<- r2.length];exact hz)
 refine ⟨.ref s.heap.objs.size,_,I.laid (t':=s.toks) (o:=.tup (xs++ys)) (fun b ob q=>Heap.get?_push_of_some _ q) (Nat.le_refl _) ?_,rfl,q2 (fun w=>z (r2.nil_iff.mpr w)) _ (I.hok.fresh (Nat.le_refl _))⟩
 exact ⟨by rw [List.length_append];exact hz,_,r1.append r2,iO.new _ _⟩
end
def uK (n:Nat) (i:Int):Option Nat:=if 0<=i then (if i < n then some i.toNat else none) else if -(n:Int)<=i then some (i + n).toNat else none
def dP {α:Type} (xs:List α) (i:Int):Option α:=(uK xs.length i).bind fun j=>xs[j]?
theorem Ei {n:Nat} {i:Int} {j:Nat} (h:uK n i=some j):seqIndex? i n=some j/\j < n/\-(n:Int)<=i/\i < n:=by
 unfold uK at h
 by_cases h0:0<=i
 ·rw [if_pos h0] at h
  by_cases h1:i < n
  ·rw [if_pos h1] at h
   have e:i.toNat=j:=Option.some.inj h
   exact ⟨by rw [seqIndex_of h0 h1,e],by omega,by omega,h1⟩
  ·rw [if_neg h1] at h;cases h
 ·rw [if_neg h0] at h
  by_cases h1:-(n:Int)<=i
  ·rw [if_pos h1] at h
   have e:(i + n).toNat=j:=Option.some.inj h
   exact ⟨by rw [seqIndex_neg (by omega) h1,e],by omega,h1,by omega⟩
  ·rw [if_neg h1] at h;cases h
theorem Al {α:Type} {xs:List α} {i:Int} {v:α} (h:dP xs i=some v):∃ j,seqIndex? i xs.length=some j/\xs[j]?=some v/\j < xs.length/\-(xs.length:Int)<=i/\i < xs.length:=by
 unfold dP at h
 cases e:uK xs.length i with
 | none=>rw [e] at h;cases h
 | some j =>
  rw [e] at h
  obtain ⟨h1,h2,h3,h4⟩:=Ei e
  exact ⟨j,h1,h,h2,h3,h4⟩
theorem eL {α:Type} {xs:List α} {j:Nat} {v:α} (h:xs[j]?=some v):dP xs (j:Int)=some v:=by
 have hj:j < xs.length:=(List.getElem?_eq_some_iff.mp h).1
 have e:uK xs.length (j:Int)=some j:=by
  unfold uK
  rw [if_pos (by omega),if_pos (by omega)];simp
 unfold dP;rw [e];exact h
def Ez (b:Expr):Prop:=∀ o i,subscripted b false o i=operate [o,i] (getItem o i)
def zD (X:Cx) (r:R2):Prop :=
 ∀ (value slice:Expr) (pins:List (Addr × Obj)) (s:Shared) (σ:St) (H:Hp) (x y:V) (v u:Value) (Q:VK),Inv X pins σ H s->RelV x v->RelV y u->r x y H Q ->
  subscripted slice false v u=operate [v,u] (getItem v u)->wpAny (model X.prog X.w) X.A (subscriptTail value slice v u) (EP X pins σ Q) X.xe s
def RA (X:Cx) (id:String) (r:V->List V->Hp->VK->Prop):Prop :=
 ∀ (pins:List (Addr × Obj)) (s:Shared) (σ:St) (H:Hp) (x:V) (xs:List V) (v:Value) (us:List Value) (Q:VK),Inv X pins σ H s->RelV x v->Vals xs us->r x xs H Q ->
  wpAny (model X.prog X.w) X.A (call (.builtin id) (v :: us)) (EP X pins σ Q) X.xe s
section
variable {X:Cx} {a b:Expr} {ta tb:TE} {pos:Pos}
theorem zD.or {r r':R2} (h:zD X r) (h':zD X r'):zD X (fun x y H Q=>r x y H Q\/r' x y H Q):=by
 intro value slice pins s σ H x y v u Q I rx ry q hs
 rcases q with q | q
 ·exact h value slice pins s σ H x y v u Q I rx ry q hs
 ·exact h' value slice pins s σ H x y v u Q I rx ry q hs
theorem Ru {r:R2} (hr:zD X r) (ha:PE X a ta) (hb:PE X b tb) (hs:Ez b):PE X (.Subscript a b pos) (En r ta tb):=by
 intro pins s σ H Q I h
 exact Subscript_ (Kw ha hb I h fun v u s2 x y H2 I2 rx ry q=>hr a b pins s2 σ H2 x y v u Q I2 rx ry q (hs _ _))
def PJ (K:PySem.W.Frag):R2:=fun x y H Q=>∃ p xs i v,x=.ref p/\y=.int i/\eC K H p xs/\dP xs i=some v/\Q v H
def O0 (K:PySem.W.Frag):R2:=fun x y H Q=>∃ p xs i v,x=.ref p/\y=.int i/\eP K H p xs/\dP xs i=some v/\Q v H
def QI:R2:=fun x y H Q=>∃ z i c,x=.str z/\y=.int i/\z.length<=sizeLine/\dP z.cps.toList i=some c/\Q (.str ⟨#[c]⟩) H
theorem NI:zD X (PJ X.K):=by
 intro value slice pins s σ H x y v u Q I rx ry h hs
 obtain ⟨p,xs,i,z,rfl,rfl,hq,he,q⟩:=h
 cases rx
 obtain ⟨t,rfl⟩:=ry
 obtain ⟨its,r,pl,hz⟩:=I.list hq
 obtain ⟨j,h1,h2,h3,h4,h5⟩:=Al he
 obtain ⟨w,ew,rw'⟩:=r.get h2
 have hl:=r.length
 have hn:=pR
 have fin:EP X pins σ Q w s:=⟨z,H,I,rw',q⟩
 by_cases h0:0<=i
 ·have hj:i.toNat=j:=by
   rw [seqIndex_of h0 h5] at h1
   exact Option.some.inj h1
  exact item_listR pl.isList h0 (by omega) (by rw [hj];simpa using ew) fin hs
 ·have hj:(i + (its.toArray.size:Int)).toNat=j:=by
   rw [seqIndex_neg (by omega) h4] at h1
   rw [List.size_toArray,<- hl]
   exact Option.some.inj h1
  exact subscriptTail_builtinR (x:=w) pl.isList.typeIs slot_list_getitem.lookup
   (wpAny_getItem_list_neg (Q:=fun r s'=>r=w/\EP X pins σ Q r s') pl.isList (by omega) (by rw [List.size_toArray] <;> omega) (by omega) (by rw [hj];simpa using ew) ⟨rfl,fin⟩) hs
theorem Qn:zD X (O0 X.K):=by
 intro value slice pins s σ H x y v u Q I rx ry h hs
 obtain ⟨p,xs,i,z,rfl,rfl,hq,he,q⟩:=h
 cases rx
 obtain ⟨t,rfl⟩:=ry
 obtain ⟨its,r,pl,hz⟩:=I.tuple hq
 obtain ⟨j,h1,h2,h3,h4,h5⟩:=Al he
 obtain ⟨w,ew,rw'⟩:=r.get h2
 have hl:=r.length
 have hn:=pR
 have fin:EP X pins σ Q w s:=⟨z,H,I,rw',q⟩
 exact subscriptTail_builtinR (x:=w) pl.typeIs slot_tuple_getitem.lookup
  (getItem_tuple (j:=j) (Q:=fun r s'=>r=w/\EP X pins σ Q r s') pl (by omega) (by omega) (by rw [List.size_toArray,<- hl];exact h1) (by simpa using ew) ⟨rfl,fin⟩) hs
theorem P0:zD X QI:=by
 intro value slice pins s σ H x y v u Q I rx ry h hs
 obtain ⟨z,i,c,rfl,rfl,hz,he,q⟩:=h
 obtain ⟨t,rfl⟩:=rx
 obtain ⟨t',rfl⟩:=ry
 obtain ⟨j,h1,h2,h3,h4,h5⟩:=Al he
 have hl:z.cps.toList.length=z.length:=by simp [Str.length]
 rw [hl] at h1 h4 h5
 have hn:=pR
 exact tail_any (typeIs_str s z t) slot_str_getitem.lookup (getItem_str (c:=c) (by
  have e1:decide (i < -(2 ^ 63:Int))=false:=decide_eq_false (by omega)
  have e2:decide (i ≥ 2 ^ 63)=false:=decide_eq_false (by omega)
  rw [e1,e2,Bool.or_false]) (by rw [h1];simpa using h2) ⟨.str ⟨#[c]⟩,H,I.tok _,⟨_,rfl⟩,q⟩) hs
def RD (K:PySem.W.Frag):R2:=fun x y H Q=>PJ K x y H Q\/O0 K x y H Q\/QI x y H Q
theorem QL:zD X (RD X.K):=NI.or (Qn.or P0)
theorem GO (its:List Value) (n j:Nat) (u:Value):Obj.mapSeq (·.setIfInBounds j u) { cls:=.type "list",data:=.seq its.toArray n }={ cls:=.type "list",data:=.seq (its.set j u).toArray n }:=by
 simp [Obj.mapSeq]
theorem Inv.lst {pins:List (Addr × Obj)} {σ:St} {H:Hp} {s:Shared} {p:Addr} {xs:List V} (I:Inv X pins σ H s) (h:H p=some (.lst xs)) :
  ∃ (its:List Value) (n:Nat),Vals xs its/\s.heap.get? p=some { cls:=.type "list",data:=.seq its.toArray n }/\xs.length<=sizeLine:=by
 obtain ⟨z,its,n,r,e⟩:=I.hok p _ h
 exact ⟨its,n,r,e,z⟩
theorem Inv.lstUpd {pins:List (Addr × Obj)} {σ:St} {H:Hp} {s:Shared} {p:Addr} {xs ys:List V} {its its':List Value} {n n':Nat} {f:Obj->Obj} (I:Inv X pins σ H s) (h:H p=some (.lst xs))
  (ho:s.heap.get? p=some { cls:=.type "list",data:=.seq its.toArray n }) (hf:f { cls:=.type "list",data:=.seq its.toArray n }={ cls:=.type "list",data:=.seq its'.toArray n' }) (r:Vals ys its') (hz:ys.length<=sizeLine) (t:Nat) :
  Inv X pins σ (upd H p (.lst ys)) { s with heap:=s.heap.update p f,toks:=t }:=by
 have e:(s.heap.update p f).get? p=some { cls:=.type "list",data:=.seq its'.toArray n' }:=by
  rw [Heap.get?_update_self f ho (by rw [hf] <;> rfl),hf]
 refine I.write (x:=p) (e:=p) (by rw [h];trivial) (.inl rfl) (fun b u hb q=>(Heap.get?_update_other _ _ (Ne.symm hb)).trans q) ⟨_,e⟩ ?_
 exact ⟨hz,its',n',r,e⟩
def Q1:V->V->V->Hp->(Hp->Prop)->Prop:=fun o i v H Q=>∃ p xs k j,o=.ref p/\i=.int k/\H p=some (.lst xs)/\uK xs.length k=some j/\Q (upd H p (.lst (xs.set j v)))
theorem set_list:OO X Q1:=by
 intro pins s σ H o i v ov iv u Q I ro ri rv h
 obtain ⟨p,xs,k,j,rfl,rfl,hp,hj,q⟩:=h
 cases ro
 obtain ⟨t,rfl⟩:=ri
 obtain ⟨its,n,r,ho,hz⟩:=I.lst hp
 obtain ⟨h1,h2,h3,h4⟩:=Ei hj
 have hl:=r.length
 have hn:=pR
 have I':Inv X pins σ (upd H p (.lst (xs.set j v))) { s with heap:=s.heap.update p (Obj.mapSeq (·.setIfInBounds j u)) } :=
  I.lstUpd hp ho (GO its n j u) (r.set rv j) (by rw [List.length_set];exact hz) s.toks
 by_cases h0:0<=k
 ·have hk:k.toNat=j:=by
   rw [seqIndex_of h0 h4] at h1
   exact Option.some.inj h1
  exact PySem.W.ki_setAt ho h0 (by omega) (by rw [List.size_toArray,<- hl];exact h4) (by rw [hk];exact ⟨_,I',q⟩)
 ·have hk:(k + (its.toArray.size:Int)).toNat=j:=by
   rw [seqIndex_neg (by omega) h3] at h1
   rw [List.size_toArray,<- hl]
   exact Option.some.inj h1
  exact PySem.W.ki_setBack ho (by omega) (by rw [List.size_toArray,<- hl];exact h3) (by omega) (by rw [hk];exact ⟨_,I',q⟩)
theorem Cw (lo hi:Option Int) (n:Nat):(sliceBounds lo hi none n).1=((HT.bK n 0 lo:Nat):Int)/\(sliceBounds lo hi none n).2.1=((HT.bK n n hi:Nat):Int)/\(sliceBounds lo hi none n).2.2=1:=by
 refine ⟨?_,?_,rfl⟩
 ·cases lo with
  | none=>simp [sliceBounds,HT.bK]
  | some i =>
   simp only [sliceBounds,HT.bK,Option.getD_none,show (1:Int) > 0 by decide,if_true]
   by_cases h:i < 0
   ·simp only [h,if_true] <;> omega
   ·simp only [h,if_false] <;> omega
 ·cases hi with
  | none=>simp [sliceBounds,HT.bK]
  | some i =>
   simp only [sliceBounds,HT.bK,Option.getD_none,show (1:Int) > 0 by decide,if_true]
   by_cases h:i < 0
   ·simp only [h,if_true] <;> omega
   ·simp only [h,if_false] <;> omega
theorem Bw (its:List Value) (lo hi:Option Int):slicePick its.toArray lo hi none=((its.drop (HT.bK its.length 0 lo)).take (HT.bK its.length its.length hi - HT.bK its.length 0 lo)).toArray:=by
 obtain ⟨h1,h2,h3⟩:=Cw lo hi its.toArray.size
 unfold slicePick
 rw [h1,h2,h3]
 simp only [sliceRange_one,pick_run,List.size_toArray] <;> rfl
def RW (K:PySem.W.Frag):V->Option Int->Option Int->Hp->VK->Prop:=fun x lo hi H Q=>∃ a xs,x=.ref a/\eC K H a xs/\∀ p,H p=none->Q (.ref p) (upd H p (.lst (qV xs lo hi)))
theorem MG:wN X (RW X.K):=by
 intro pins s σ H x v vl vu lo hi sl Q I rx hs pl pu h
 obtain ⟨a,xs,rfl,hx,q⟩:=h
 cases rx
 obtain ⟨its,r,ht,hz⟩:=I.list hx
 have hlen:=r.length
 refine ⟨"list",_,slot_list_getitem.lookup,ht.isList.typeIs,?_⟩
 refine wpAny_getItem_list_slice ht.isList hs pl pu .none (by simp) ?_ (by rw [List.size_toArray] <;> omega)
 rw [Bw,<- hlen]
 refine ⟨.ref s.heap.objs.size,_,I.laid (t':=s.toks) (o:=.lst (qV xs lo hi)) (fun b ob q=>Heap.get?_push_of_some _ q) (Nat.le_refl _) ?_,rfl,q _ (I.hok.fresh (Nat.le_refl _))⟩
 exact ⟨Nat.le_trans (wK xs lo hi) hz,_,0,(r.drop (HT.bK xs.length 0 lo)).take (HT.bK xs.length xs.length hi - HT.bK xs.length 0 lo),Heap.get?_push_size _ rfl⟩
def iG:V->Bool
 | .non=>true
 | .bl _=>true
 | .int _=>true
 | .str _=>true
 | _=>false
def qM:V->V->Bool
 | .non,.non=>true
 | .bl a,.bl b=>a == b
 | .bl a,.int b=>(if a then 1 else 0) == b
 | .int a,.bl b=>a == (if b then 1 else 0)
 | .int a,.int b=>a == b
 | .str a,.str b=>a == b
 | _,_=>false
theorem PK {A:Around} {s:Shared} {y x:V} {u v:Value} (ry:RelV y u) (rx:RelV x v) (fy:iG y=true) (fx:iG x=true):SeqAt.EqAt A s u v (qM y x):=by
 cases y with
 | non =>
  cases ry
  cases x with
  | non=>cases rx;exact SeqAt.EqAt.same _
  | bl b=>cases rx;exact SeqAt.EqAt.none_bool b
  | int b=>obtain ⟨t,rfl⟩:=rx;exact SeqAt.EqAt.none_int b t
  | str b=>obtain ⟨t,rfl⟩:=rx;exact SeqAt.EqAt.none_str b t
  | _=>exact absurd (show false=true from fx) Bool.false_ne_true
 | bl a =>
  cases ry
  cases x with
  | non=>cases rx;exact SeqAt.EqAt.bool_none a
  | bl b=>cases rx;exact SeqAt.EqAt.bool_bool a b
  | int b=>obtain ⟨t,rfl⟩:=rx;exact SeqAt.EqAt.bool_int a b t
  | str b=>obtain ⟨t,rfl⟩:=rx;exact SeqAt.EqAt.bool_str a b t
  | _=>exact absurd (show false=true from fx) Bool.false_ne_true
 | int a =>
  obtain ⟨t',rfl⟩:=ry
  cases x with
  | non=>cases rx;exact SeqAt.EqAt.int_none a t'
  | bl b=>cases rx;exact SeqAt.EqAt.int_bool a t' b
  | int b=>obtain ⟨t,rfl⟩:=rx;exact SeqAt.EqAt.int_int a t' b t
  | str b=>obtain ⟨t,rfl⟩:=rx;exact SeqAt.EqAt.int_str a t' b t
  | _=>exact absurd (show false=true from fx) Bool.false_ne_true
 | str a =>
  obtain ⟨t',rfl⟩:=ry
  cases x with
  | non=>cases rx;exact SeqAt.EqAt.str_none a t'
  | bl b=>cases rx;exact SeqAt.EqAt.str_bool a t' b
  | int b=>obtain ⟨t,rfl⟩:=rx;exact SeqAt.EqAt.str_int a t' b t
  | str b=>obtain ⟨t,rfl⟩:=rx;exact SeqAt.EqAt.str_str a t' b t
  | _=>exact absurd (show false=true from fx) Bool.false_ne_true
 | _=>exact absurd (show false=true from fy) Bool.false_ne_true
def oM (x:V) (u:Value):Bool:=match u with
 | .none=>qM .non x
 | .bool b=>qM (.bl b) x
 | .int i _=>qM (.int i) x
 | .str z _=>qM (.str z) x
 | _=>false
theorem C1 {x y:V} {u:Value} (r:RelV y u) (f:iG y=true):oM x u=qM y x:=by
 cases y with
 | non=>cases r;rfl
 | bl b=>cases r;rfl
 | int i=>obtain ⟨t,rfl⟩:=r;rfl
 | str z=>obtain ⟨t,rfl⟩:=r;rfl
 | _=>exact absurd (show false=true from f) Bool.false_ne_true
theorem rQ {x:V}:∀ {xs:List V} {us:List Value},Vals xs us->xs.all iG=true->us.any (oM x)=xs.any fun y=>qM y x
 | _,_,.nil,_=>rfl
 | y :: xs,u :: us,.cons r t,f=>by
  rw [List.all_cons,Bool.and_eq_true] at f
  rw [List.any_cons,List.any_cons,C1 r f.1,rQ t f.2]
theorem nD {A:Around} {s:Shared} {x:V} {v:Value} (rx:RelV x v) (fx:iG x=true):∀ {xs:List V} {us:List Value},Vals xs us->xs.all iG=true->∀ u∈us,SeqAt.EqAt A s u v (oM x u)
 | _,_,.nil,_=>fun u hu=>by cases hu
 | y :: xs,u :: us,.cons r t,f=>fun u' hu=>by
  rw [List.all_cons,Bool.and_eq_true] at f
  rcases List.mem_cons.mp hu with rfl | hu
  ·rw [C1 r f.1];exact PK r rx f.1 fx
  ·exact nD rx fx t f.2 u' hu
def LN (x:V) (xs:List V):Bool:=xs.any fun y=>qM y x
def Pk (K:PySem.W.Frag) (neg:Bool):R2:=fun x y H Q=>∃ p xs,y=.ref p/\(eC K H p xs\/eP K H p xs)/\iG x=true/\xs.all iG=true/\Q (.bl (if neg then !LN x xs else LN x xs)) H
theorem Hy:dA X (compareOp .In) (Pk X.K false):=by
 intro pins s σ H x y v u Q I rx ry h
 obtain ⟨p,xs,rfl,hq,fx,fs,q⟩:=h
 cases ry
 rcases hq with hq | hq
 ·obtain ⟨its,r,pl,hz⟩:=I.list hq
  refine SeqAt.in_listAt (oM x) pl.isList (fun w hw=>nD rx fx r fs w (by simpa using hw)) ⟨.bl _,H,I,rfl,?_⟩
  rw [show its.toArray.any (oM x)=its.any (oM x) by simp,rQ r fs]
  exact q
 ·obtain ⟨its,r,pl,hz⟩:=I.tuple hq
  refine SeqAt.in_tupleAt (oM x) pl (fun w hw=>nD rx fx r fs w (by simpa using hw)) ⟨.bl _,H,I,rfl,?_⟩
  rw [show its.toArray.any (oM x)=its.any (oM x) by simp,rQ r fs]
  exact q
theorem CJ:dA X (compareOp .NotIn) (Pk X.K true):=by
 intro pins s σ H x y v u Q I rx ry h
 obtain ⟨p,xs,rfl,hq,fx,fs,q⟩:=h
 cases ry
 rcases hq with hq | hq
 ·obtain ⟨its,r,pl,hz⟩:=I.list hq
  refine SeqAt.notIn_listAt (oM x) pl.isList (fun w hw=>nD rx fx r fs w (by simpa using hw)) ⟨.bl _,H,I,rfl,?_⟩
  rw [show its.toArray.any (oM x)=its.any (oM x) by simp,rQ r fs]
  exact q
 ·obtain ⟨its,r,pl,hz⟩:=I.tuple hq
  refine SeqAt.notIn_tupleAt (oM x) pl (fun w hw=>nD rx fx r fs w (by simpa using hw)) ⟨.bl _,H,I,rfl,?_⟩
  rw [show its.toArray.any (oM x)=its.any (oM x) by simp,rQ r fs]
  exact q
theorem jN.or {f:Value} {r r':List V->Hp->VK->Prop} (h:jN X f r) (h':jN X f r'):jN X f (fun xs H Q=>r xs H Q\/r' xs H Q):=by
 intro pins s σ H xs us Q I rs q
 rcases q with q | q
 ·exact h pins s σ H xs us Q I rs q
 ·exact h' pins s σ H xs us Q I rs q
theorem C8:jN X (.type "list") (fun xs H Q=>∃ p ys,xs=[.ref p]/\(eC X.K H p ys\/eP X.K H p ys)/\∀ l,H l=none->Q (.ref l) (upd H l (.lst ys))):=by
 intro pins s σ H xs us Q I r h
 obtain ⟨p,ys,rfl,hq,q⟩:=h
 obtain ⟨u,rfl,rx⟩:=vals1 r
 cases rx
 have fin:∀ (its:List Value),Vals ys its->ys.length<=sizeLine->∀ (h':Heap) (c':Nat),(∀ b o',s.heap.get? b=some o'->h'.get? b=some o') ->
   h'.get? s.heap.objs.size=some { cls:=.type "list",dict:=none,data:=.seq its.toArray c',slots:=#[] }->EP X pins σ Q (.ref s.heap.objs.size) { s with heap:=h' }:=fun its r' hz h' c' kp e =>
  ⟨.ref s.heap.objs.size,_,I.laid (t':=s.toks) kp (Nat.le_refl _) (show dI X.prog X.w _ h' _ (.lst ys) from ⟨hz,its,c',r',e⟩),rfl,q _ (I.hok.fresh (Nat.le_refl _))⟩
 rcases hq with hq | hq
 ·obtain ⟨its,r',pl,hz⟩:=I.list hq
  have hlen:=r'.length
  obtain ⟨o,ho,hc,n,hd⟩:=pl.isList
  exact call_list_seq p (.inl rfl) ho hc hd (fun h' c' kp e=>fin its r' hz h' c' kp e) (by simp only [List.size_toArray] <;> omega)
 ·obtain ⟨its,r',pl,hz⟩:=I.tuple hq
  have hlen:=r'.length
  obtain ⟨o,ho,hc,n,hd⟩:=pl
  exact call_list_seq p (.inr rfl) ho hc hd (fun h' c' kp e=>fin its r' hz h' c' kp e) (by simp only [List.size_toArray] <;> omega)
theorem Bl:jN X (.type "tuple") (fun xs H Q=>∃ p ys,xs=[.ref p]/\((eC X.K H p ys/\∀ l,H l=none->Q (.ref l) (upd H l (.tup ys)))\/(eP X.K H p ys/\Q (.ref p) H))):=by
 intro pins s σ H xs us Q I r h
 obtain ⟨p,ys,rfl,h⟩:=h
 obtain ⟨u,rfl,rx⟩:=vals1 r
 cases rx
 rcases h with ⟨hq,q⟩ | ⟨hq,q⟩
 ·obtain ⟨its,r',pl,hz⟩:=I.list hq
  have hlen:=r'.length
  refine call_tuple_list pl.isList (fun h' kp=>?_) (by simp only [List.size_toArray] <;> omega)
  have I1:Inv X pins σ H { s with heap:=h' }:=I.kept (t':=s.toks) kp
  have I2:Inv X pins σ (upd H h'.objs.size (.tup ys)) { s with heap:=h'.push { cls:=.type "tuple",data:=.seq its.toArray } } :=
   I1.laid (t':=s.toks) (fun b o e=>Heap.get?_push_of_some _ e) (Nat.le_refl _) (show dI X.prog X.w _ _ _ (.tup ys) from ⟨hz,its,r',iO.new _ _⟩)
  exact ⟨.ref h'.objs.size,_,I2,rfl,q _ (I1.hok.fresh (Nat.le_refl _))⟩
 ·obtain ⟨its,r',pl,hz⟩:=I.tuple hq
  exact call_tuple_same pl ⟨.ref p,H,I,rfl,q⟩
def PX (K:PySem.W.Frag) (T:String) (x:V) (H:Hp):Prop:=match x with
 | .str _=>T="str"
 | .int _=>T="int"
 | .ref p=>(T="list"/\∃ xs,eC K H p xs)\/(T="tuple"/\∃ o,K.lookup p=some o/\o.cls=.type "tuple"/\o.dict=none) \/
   (T="dict"/\((∃ kvs,H p=some (.dK kvs))\/∃ kvs,H p=some (.dT kvs)))\/(T="set"/\∃ S n,H p=some (.set S n))
 | _=>False
theorem O1 {pins:List (Addr × Obj)} {σ:St} {H:Hp} {s:Shared} {T:String} {x:V} {v:Value} (I:Inv X pins σ H s) (r:RelV x v) (ty:PX X.K T x H) :
  s.TypeIs v T/\∀ a,v=.ref a->∃ ob,s.heap.get? a=some ob/\ob.dict=none:=by
 cases x with
 | str z =>
  obtain ⟨t,rfl⟩:=r
  cases (show T="str" from ty)
  exact ⟨typeIs_str s z t,fun _ e=>nomatch e⟩
 | int i =>
  obtain ⟨t,rfl⟩:=r
  cases (show T="int" from ty)
  exact ⟨typeIs_int s i t,fun _ e=>nomatch e⟩
 | ref p =>
  cases r
  rcases ty with ⟨rfl,xs,hq⟩ | ⟨rfl,o,hk,hc,hd⟩ | ⟨rfl,hk⟩ | ⟨rfl,S,n,hk⟩
  ·obtain ⟨its,_,pl,_⟩:=I.list hq
   refine ⟨pl.isList.typeIs,fun a e=>?_⟩
   cases e
   obtain ⟨o,n,e,c,hd,_⟩:=pl
   exact ⟨o,e,hd⟩
  ·refine ⟨⟨o,I.kIn p o hk,hc⟩,fun a e=>?_⟩
   cases e
   exact ⟨o,I.kIn _ o hk,hd⟩
  ·have z:∃ o,s.heap.get? p=some o/\o.ExactDict:=by
    rcases hk with ⟨kvs,hk⟩ | ⟨kvs,hk⟩
    ·obtain ⟨_,_,_,_,o,_,_,e,ex,_⟩:=I.hok p _ hk
     exact ⟨o,e,ex⟩
    ·obtain ⟨_,_,_,_,o,_,_,e,ex,_⟩:=I.hok p _ hk
     exact ⟨o,e,ex⟩
   obtain ⟨o,e,ex⟩:=z
   refine ⟨⟨o,e,ex.1⟩,fun a e2=>?_⟩
   cases e2
   exact ⟨o,e,ex.2.1⟩
  ·obtain ⟨o,_,_,_,e,ex,_⟩:=I.hok p _ hk
   refine ⟨⟨o,e,ex.1⟩,fun a e2=>?_⟩
   cases e2
   exact ⟨o,e,ex.2.1⟩
 | _=>exact False.elim ty
def RJ (K:PySem.W.Frag) (T:String) (r:V->List V->Hp->VK->Prop) (to:TE) (t:TA):TE:=fun σ H Q=>to σ H fun x H1=>PX K T x H1/\t σ H1 fun xs H2=>r x xs H2 Q
variable {o e:Expr} {es:List Expr} {to:TE} {t:TA} {name:Str} {apos cpos:Pos} {T id:String} {r:V->List V->Hp->VK->Prop}
theorem FR (pa:PlainAttrs T) (slot:Slot T name id) (hty:typeOf (.builtin id)=pure (.type "method_descriptor")) (hm:RA X id r) (ho:PE X o to) (ha:PA X (e :: es) t)
  (hbase:attributeBase o name X.env (eval o X.env)=eval o X.env:=by rfl)
  (hfew:((backTo cpos (starEach (e :: es) X.env)).all (fun x=>!x.1) && (backToKw cpos (keywordEach [] X.env)).all (fun x=>x.1.isSome)
   && decide ((e :: es).length + ([]:List Keyword).length + (if ([]:List Keyword).isEmpty then 0 else 1) < 30))=true:=by rfl)
  (hline:(apos.endLine == cpos.line)=true:=by rfl) (hs:starEach (e :: es) X.env=(false,eval e X.env) :: starEach es X.env:=by rfl) (hplain:(backTo cpos (starEach es X.env)).any (·.1)=false:=by rfl) :
  PE X (.Call (.Attribute o name apos) (e :: es) [] cpos) (RJ X.K T r to t):=by
 intro pins s σ H Q I h
 refine wpAny_Call_method_late hbase hfew hline rfl (bI (ho pins s σ H _ I h) fun v s1 ⟨x,H1,I1,r1,ty,q1⟩=>?_)
 obtain ⟨h1,h2⟩:=O1 I1 r1 ty
 refine ⟨T,id,pa,slot,hty,h1,h2,?_⟩
 have hA:=ha cpos pins s1 σ H1 _ I1 q1
 rw [hs] at hA ⊢
 refine Calls.callWith_builtin (by show (false || (backTo cpos (starEach es X.env)).any (·.1))=false;rw [hplain] <;> rfl) (Calls.evalArgs_plain ?_)
 exact bI hA fun us s2 ⟨vs,H2,I2,r2,q2⟩=>hm pins s2 σ H2 x vs v us Q I2 r1 r2 q2
end
def LO (X:Cx) (id:String) (r:V->List V->Hp->VK->Prop):Prop :=
 ∀ (pins:List (Addr × Obj)) (s:Shared) (σ:St) (H:Hp) (x:V) (xs:List V) (v:Value) (us:List Value) (Q:VK),Inv X pins σ H s->RelV x v->Vals xs us->r x xs H Q ->
  wpAny (model X.prog X.w) X.A (call (.builtin id) (v :: us)) (EP X pins σ Q) X.xe s
theorem Vals.one:∀ {x:V} {us:List Value},Vals [x] us->∃ u,us=[u]/\RelV x u
 | _,_,.cons r .nil=>⟨_,rfl,r⟩
theorem Vals.rep {xs:List V} {us:List Value} (h:Vals xs us):∀ k:Nat,Vals (List.replicate k xs).flatten (List.replicate k us).flatten
 | 0=>.nil
 | k + 1=>by
  rw [List.replicate_succ,List.replicate_succ,List.flatten_cons,List.flatten_cons]
  exact Vals.append h (Vals.rep h k)
theorem Q3 {α:Type} (l:List α):l.eraseIdx (l.length - 1)=l.dropLast:=by
 induction l with
 | nil=>rfl
 | cons a r ih =>
  cases r with
  | nil=>rfl
  | cons b r =>
   have e:(a :: b :: r).length - 1=((b :: r).length - 1) + 1:=by
    have h1:(a :: b :: r).length=r.length + 2:=rfl
    have h2:(b :: r).length=r.length + 1:=rfl
    omega
   rw [e,List.eraseIdx_cons_succ,ih]
   all_goals rfl
theorem foldl_rep (its:List Value):∀ (k:Nat) (acc:List Value),
  List.foldl (fun x1 x2=>x1++x2) acc.toArray (List.replicate k its.toArray)=(acc++(List.replicate k its).flatten).toArray
 | 0,acc=>by simp
 | k + 1,acc=>by
  have e:acc.toArray++its.toArray=(acc++its).toArray:=by simp
  have e2:(acc++its)++(List.replicate k its).flatten=acc++(List.replicate (k + 1) its).flatten:=by
   rw [List.replicate_succ,List.flatten_cons,List.append_assoc]
  rw [<- e2,<- foldl_rep its k (acc++its),<- e,List.replicate_succ,List.foldl_cons]
section
variable {X:Cx} {pins:List (Addr × Obj)} {σ:St} {H:Hp} {s:Shared} {l b:Addr} {xs ys zs:List V}
theorem Inv.lset {its its':List Value} {n:Nat} {f:Array Value->Array Value} {t':Nat} (I:Inv X pins σ H s) (hH:H l=some (.lst xs))
  (e:s.heap.get? l=some { cls:=.type "list",data:=.seq its.toArray n }) (hf:f its.toArray=its'.toArray) (hv:Vals ys its') (hz:ys.length<=sizeLine) :
  Inv X pins σ (upd H l (.lst ys)) { s with heap:=s.heap.update l (Obj.mapSeq f),toks:=t' }:=by
 have q:=PySem.IsL.update e f
 rw [hf] at q
 refine I.write (x:=l) (e:=l) (by rw [hH];exact trivial) (.inl rfl) (fun b' u hb hu=>(Heap.get?_update_other s.heap (Obj.mapSeq f) (Ne.symm hb)).trans hu) ⟨_,q⟩ ?_
 exact ⟨hz,its',_,hv,q⟩
theorem Inv.lnew {its:List Value} {t':Nat} (I:Inv X pins σ H s) (hv:Vals ys its) (hz:ys.length<=sizeLine) :
  Inv X pins σ (upd H s.heap.objs.size (.lst ys)) { s with heap:=s.heap.push { cls:=.type "list",data:=.seq its.toArray },toks:=t' } :=
 I.laid (fun _ _ q=>Heap.get?_push_of_some _ q) (Nat.le_refl _) ⟨hz,its,0,hv,Heap.get?_push_size _ rfl⟩
theorem Inv.fresh (I:Inv X pins σ H s):H s.heap.objs.size=none:=I.hok.fresh (Nat.le_refl _)
theorem Inv.lstM (I:Inv X pins σ H s) (hH:H l=some (.lst xs)):xs.length<=sizeLine/\∃ (its:List Value) (n:Nat),Vals xs its/\xs.length=its.length/\s.heap.get? l=some { cls:=.type "list",data:=.seq its.toArray n }:=by
 obtain ⟨z,its,n,r,e⟩:=I.hok l _ hH
 exact ⟨z,its,n,r,r.length,e⟩
theorem CS {n:Nat} (h:n<=sizeLine):Builtin.List.listTooLong n=false:=by
 unfold Builtin.List.listTooLong
 exact decide_eq_false (by omega)
end
section
variable {X:Cx}
def Et:V->List V->Hp->VK->Prop:=fun x vs H Q=>∃ l xs y,x=.ref l/\vs=[y]/\H l=some (.lst xs)/\xs.length < sizeLine/\Q .non (upd H l (.lst (xs++[y])))
theorem AX:LO X "list.append" Et:=by
 intro pins s σ H x vs v us Q I rx rv h
 obtain ⟨l,xs,y,rfl,rfl,hH,hz,q⟩:=h
 cases rx
 obtain ⟨u,rfl,ru⟩:=rv.one
 obtain ⟨z,its,n,r,hl,e⟩:=I.lstM hH
 refine call_meets F.slot_list_append ⟨_,e,rfl⟩ F.entry_list_append (F.args_list_append_2 _ _) (PySem.list_append l its.toArray n u (by rw [List.size_toArray];omega)) ⟨e,?_⟩
 refine ⟨.non,_,I.lset (its':=its++[u]) hH e (by simp) (r.append (.cons ru .nil)) ?_,rfl,q⟩
 rw [List.length_append,List.length_singleton]
 omega
def PR:R2:=fun x y H Q=>∃ l k xs,x=.ref l/\y=.int k/\H l=some (.lst xs)/\-(2 ^ 63)<=k/\k < 2 ^ 63/\xs.length * k.toNat<=sizeLine /\
 ∀ p,H p=none->Q (.ref p) (upd H p (.lst (List.replicate k.toNat xs).flatten))
theorem len_rep {α:Type} (xs:List α) (k:Nat):(List.replicate k xs).flatten.length=k * xs.length:=by
 induction k with
 | zero=>simp
 | succ k ih=>rw [List.replicate_succ,List.flatten_cons,List.length_append,ih,Nat.succ_mul,Nat.add_comm]
theorem Qm:dA X (binaryOp .Mult) PR:=by
 intro pins s σ H x y v u Q I rx ry h
 obtain ⟨l,k,xs,rfl,rfl,hH,h1,h2,hz,q⟩:=h
 cases rx
 obtain ⟨t,rfl⟩:=ry
 obtain ⟨z,its,n,r,hl,e⟩:=I.lstM hH
 have hlen:its.toArray.size * k.toNat<=sizeLine:=by rw [List.size_toArray,<- hl];exact hz
 have hcap:¬ its.toArray.size * k.toNat > (2 ^ 63 - 1) / 8:=by
  have:(sizeLine:Nat)<=(2 ^ 63 - 1) / 8:=by decide
  omega
 have hfit:¬ (!Builtin.List.listFitsIndex k)=true:=by
  rw [fitsIndex_both h1 h2]
  exact Bool.false_ne_true
 have hlong:¬ Builtin.List.listTooLong (its.toArray.size * k.toNat)=true:=by
  rw [CS hlen]
  exact Bool.false_ne_true
 have hnew:List.foldl (fun x1 x2=>x1++x2) #[] (List.replicate (if its.toArray.isEmpty=true then 0 else k.toNat) its.toArray)=(List.replicate k.toNat its).flatten.toArray:=by
  have f0:∀ m:Nat,List.foldl (fun x1 x2=>x1++x2) #[] (List.replicate m its.toArray)=(List.replicate m its).flatten.toArray:=fun m=>by
   have:=foldl_rep its m []
   rw [List.nil_append] at this
   exact this
  rw [f0]
  cases its with
  | nil=>simp
  | cons a r'=>rw [if_neg (by simp)]
 refine wpAny_binaryOp_repeat_ref (T:="list") (U:="int") (by decide) ⟨_,e,rfl⟩ (fun s'=>typeIs_int s' k t) noFill_list_mul F.fills_int_mul F.slot_int_rmul repeat_list F.slot_int_index.lookup
  (call_meets F.slot_int_rmul (typeIs_int s k t) F.entry_int_rmul (F.args_int_rmul_2 _ _) (int___rmul___int_list k t l its.toArray n)
   ⟨e,rfl,⟨_,e,rfl⟩,call_meets F.slot_list_mul ⟨_,e,rfl⟩ F.entry_list_mul (F.args_list_mul_2 _ _) (AutoListH.list___mul___list_int_3 l its.toArray n k t hfit hcap hlong) ⟨e,?_⟩⟩)
 rw [hnew]
 exact ⟨.ref _,_,I.lnew (t':=s.toks) (r.rep k.toNat) (by rw [len_rep,Nat.mul_comm];exact hz),rfl,q _ I.fresh⟩
end
section
variable {prog:Program} {w:World} {A:Around} {E:Value->Shared->Prop} {s:Shared}
end
section
variable {X:Cx}
end
end L2
namespace Att
open PySem PySem.W PySem.Calls PyProof.Rows
theorem zB {P:Params} {h:Heap}:∀ (ns:List Int) (vs:List Value),WellAll P h vs (ns.map WData.int)->IntsAre vs ns:=by
 intro ns
 induction ns with
 | nil =>
  intro vs w
  rw [List.map_nil] at w
  cases w
  exact .nil
 | cons n ns ih =>
  intro vs w
  rw [List.map_cons] at w
  cases w with
  | cons a b =>
   cases a
   exact .cons _ _ (ih _ b)
theorem Ig {l:OpenLaw} {n:Nat} (hn:l.most=some n) {P:Params} {h:Heap} {args:List WData} {vals:List Value}
  (hpre:l.row.toRowW.claim.pre args=true) (hwl:WellAll P h vals args) :
  ∃ a vs ns,vals=[Value.ref a]/\args=[WData.list (ns.map WData.int)]/\h.get? a=some { cls:=.type "list",data:=.seq vs.toArray }/\IntsAre vs ns/\ns.length<=n:=by
 have hsh:WShape.hasAll [] args [.list .int]=true:=(pre_splitW hpre).1
 have hc:l.pre.holds [] { args:=args }=true:=(pre_splitW hpre).2
 obtain ⟨d,r,rfl,h1,h2⟩:=hasAllW_cons hsh
 obtain rfl:=hasAllW_nil h2
 obtain ⟨xs,rfl,h3⟩:=hasW_list h1
 obtain ⟨ns,rfl⟩:=items_int h3
 have hlen:ns.length<=n:=by
  unfold OpenLaw.pre at hc
  have h4:(WTm.not (.lt (.lit (.int (n:Int))) (.len (.arg 0)))).holds [] { args:=[.list (ns.map .int)] }=true:=by
   have h4:=(holds_andW hc).1
   rw [hn] at h4
   exact h4
  have h5:=condW_of h4 (w_not (w_lt w_lit (w_len_list (w_arg rfl))))
  rw [List.length_map] at h5
  refine Nat.le_of_not_lt fun q=>?_
  have q':(n:Int) < ((ns.length:Nat):Int):=by omega
  first
   | (rw [decide_eq_true q'] at h5;exact absurd h5 (by decide))
   | (simp at h5;omega)
 cases hwl with
 | cons w1 w2 =>
  cases w2
  cases w1 with
  | list ho hall=>exact ⟨_,_,ns,rfl,rfl,ho,zB ns _ hall,hlen⟩
theorem Jh (l:OpenLaw) (args:List WData):l.row.toRowW.claim.post args (.bool true) args=true :=
 postW_of (r:=l.row.toRowW) (X:=(true == true))
  (show WShape.has [] (.bool true) .bool=true by first | rfl | decide | simp [WShape.has,WShape.arms,WShape.armsAll])
  (show (WTm.eq .res (.lit (.bool true))).value [] { args:=args,res:=some (.bool true),after:=args }=some (.bool (true == true)) from w_eq_bool (w_res rfl) w_lit) rfl
theorem attach_call {l:OpenLaw} {n:Nat} {q:Program} {loose:List Str} {XP:(Str->Option Value)->Heap->Prop} {YP:World->Heap->Prop} {d:DefRec}
  (hn:l.most=some n) (hdf:d.params.defaults=[])
  (call:∀ (w:World) (s₀ s₁:Shared) (mg mb:Str->Option Value) (fa:Addr) (o:Obj) (pm cd doc:Value) (a:Addr) (vs:List Value) (ns:List Int),
   Ground q loose [] XP w s₀ mg mb s₁.heap->YP w s₁.heap ->
   s₁.heap.get? fa=some o->o.data=.func (docDef d.name d.params d.body d.scope pm cd doc)->s₁.heap.CodeRec cd d.name->mg d.name=some (.ref fa) ->
   s₁.heap.get? a=some { cls:=.type "list",data:=.seq vs.toArray }->IntsAre vs ns->ns.length<=n->s₁.gens=#[] ->
   codeAny (model l.prog w) callerA (.call (.ref fa) ⟨[.ref a],[]⟩) (fun r s'=>r=.ok (.ret (.bool true))/\OldK s₁.heap s'.heap/\s'.os=s₁.os/\AllBare s'.gens) s₁) :
  WalkO q loose XP YP l.row.toRowW d [] (fun f vs=>PySem.call f vs):=by
 intro w s₀ s₁ mg mb G Y fa o pm cd doc dV kV ho hd hcd hD hmg hg args vals as hpre hlay hrd hwl hlo
 obtain rfl:dV=.none:=Dflts.none hD hdf
 obtain rfl:kV=.none:=Dflts.noKw hD
 obtain ⟨a,vs,ns,rfl,rfl,hobj,hints,hlen⟩:=Ig hn hpre hwl
 refine enter_call (codeAny_mono (call w s₀ s₁ mg mb fa o pm cd doc a vs ns G Y ho (fd_plain hd) hcd hmg hobj hints hlen hg) fun r s' hq=>?_)
 obtain ⟨rfl,h2,h3,h4⟩:=hq
 exact ⟨.inl ⟨.bool true,.bool true,[],rfl,fun _=>rfl,.bool true,Jh l _,fun _=>⟨List.Pairwise.nil,fun _ hm=>(nomatch hm)⟩⟩,h2,h3,h4⟩
section
variable {prog:Program} {w:World} {A:Around} {E:Value->Shared->Prop} {s:Shared} {K:Frag}
end
end Att
namespace L2
open PySem PySem.Spec PyProof.Rows
theorem Bf:∀ {vs:List Value} {ns:List Int},IntsAre vs ns->Vals (ns.map V.int) vs
 | _,_,.nil=>.nil
 | _,_,.cons n t h=>.cons ⟨t,rfl⟩ (Bf h)
end L2
namespace L2
open PySem PySem.Spec PyProof.Rows
def aZ (s:Stmt):Arguments:=match s with
 | .FunctionDef _ a _ _ _ _ _ _ _ _=>a
 | _=>{ posonlyargs:=[],args:=[],vararg:=none,kwonlyargs:=[],kw_defaults:=[],kwarg:=none,defaults:=[] }
def aT (s:Stmt):List Stmt:=match s with
 | .FunctionDef _ _ b _ _ _ _ _ _ _=>b
 | _=>[]
def aH (s:Stmt):Scope:=match s with
 | .FunctionDef _ _ _ _ _ _ sc _ _ _=>sc
 | _=>{ kind:=.function,names:=[],isGenerator:=false,isCoroutine:=false }
abbrev kP:wL:=fun _ _ _ _ _ _=>False
abbrev E0:XK:=fun _ _ _=>False
theorem yD {X:Cx}:Passes kP X E0:=fun _ _ _ _ _ _ _ h=>h.elim
structure cK (K:PySem.W.Frag) (x qual:Str) (st:Stmt) (f:Addr) (fd:FuncData):Prop where
 ex:∃ (oc:Value) (od:Option Addr) (kV doc pm:Value) (an:Option Addr) (cdv ct:Value) (osl:Array (Option Value)),
  fd=PySem.W.fnOf x qual (aZ st) (aT st) (aH st) .none kV doc pm an cdv ct/\K.lookup f=some ⟨oc,od,.func fd,osl⟩/\PySem.W.codeIn K cdv qual=true
 kp:PySem.W.keepIn K (.ref f)=true
section
variable {P:Program} {w:World} {K:PySem.W.Frag} {mg:Str->Option Value} {base:Heap}
theorem cK.ok {x qual:Str} {st:Stmt} {f:Addr} {fd:FuncData} {N ps:List Str} {k:Nat} {sp:Sp} (F:cK K x qual st f fd) (S:bA N ps (aH st)) (len:∀ vs H Q E,sp vs H Q E->vs.length=ps.length)
  (hbody:∀ (cdv:Value) (A:Around) (outer:List Env) (s:Shared) (H:Hp) (vs:List V) (Q:VK) (E:XK),dC k (A.deeper (envOfC qual (aH st) s.heap.objs.size f cdv))->sp vs H Q E ->
   ∃ t,qK (Ag kP P w K mg base N qual (aH st) f cdv A outer s H E).nox (aT st) t/\t { nx:=fun _ H'=>Q .non H',rt:=Q } (start N vs) H):fF P w K mg base kP (k + 1) f fd ps sp:=by
 obtain ⟨oc,od,kV,doc,pm,an,cdv,ct,osl,rfl,lk,hcd⟩:=F.ex
 refine L8 lk hcd S len fun A outer s H vs Q E hr hsp=>?_
 obtain ⟨t,h,q⟩:=hbody cdv A outer s H vs Q E hr hsp
 exact ⟨t,h.nox,q⟩
theorem cK.binds {x qual:Str} {st:Stmt} {f:Addr} {fd:FuncData} {ps:List Str} (F:cK K x qual st f fd)
  (h:∀ (kV doc pm:Value) (an:Option Addr) (cdv ct:Value) (us:List Value),us.length=ps.length->bindArgs (PySem.W.fnOf x qual (aZ st) (aT st) (aH st) .none kV doc pm an cdv ct) ⟨us,[]⟩=pure (ps.zip us)):Binds K fd ps []:=by
 obtain ⟨oc,od,kV,doc,pm,an,cdv,ct,osl,rfl,lk,hcd⟩:=F.ex
 exact .all (h kV doc pm an cdv ct)
theorem bX {x qual:Str} {st:Stmt} {f:Addr} {oc:Value} {od an:Option Addr} {osl:Array (Option Value)} {kV doc pm cdv ct:Value} (l:K.lookup f=some ⟨oc,od,.func (PySem.W.fnOf x qual (aZ st) (aT st) (aH st) .none kV doc pm an cdv ct),osl⟩)
  (c:PySem.W.codeIn K cdv qual=true) (k:PySem.W.keepIn K (.ref f)=true):cK K x qual st f (PySem.W.fnOf x qual (aZ st) (aT st) (aH st) .none kV doc pm an cdv ct):=⟨⟨oc,od,kV,doc,pm,an,cdv,ct,osl,rfl,l,c⟩,k⟩
end
theorem Mg {A:Around} {k:Nat} (hr:dC k A):A.units + 1 < cLine:=Nat.lt_of_le_of_lt (Nat.add_le_add_left (by decide:1<=64) _) hr.units
section
variable {X:Cx}
end
theorem iI {c A B:Prop} [Decidable c] (h1:c->A) (h2:¬ c->B):if c then A else B:=by
 by_cases h:c
 ·rw [if_pos h]
  exact h1 h
 ·rw [if_neg h]
  exact h2 h
end L2
namespace U2
open PySem L2
inductive U where
 | non | bl (b:Bool) | int (i:Int) | str (x:Str) | tup (us:List U) | lst (us:List U) | ref (a:Addr) | ty (n:String) | dic (ks:List (List Key)) (tk:Bool) (us:List U)
inductive MO where
 | lst (us:List U) | dK (kvs:List (Key × U)) | dT (kvs:List (List Key × U)) | dN (kvs:List ((List Key × Key) × U)) | ins (C dx:Addr) (fs:List (Str × U)) | tbl (q:Str) | cap (ps:Array Value) (vs:List V) (us:List U)
abbrev aF:=Addr->Option MO
def mup (M:aF) (a:Addr) (o:MO):aF:=fun b=>if b=a then some o else M b
theorem aD {M:aF} {a:Addr} {o:MO}:mup M a o a=some o:=by unfold mup;rw [if_pos rfl]
theorem aG {M:aF} {a b:Addr} {o:MO} (h:b≠a):mup M a o b=M b:=by unfold mup;rw [if_neg h]
theorem aV {M:aF} {a:Addr} {o u:MO}:mup (mup M a o) a u=mup M a u:=by
 funext b;unfold mup;split <;> rfl
def KL (K:PySem.W.Frag) (a:Addr) (xs:List V):Prop :=
 ∃ (o:Obj) (its:Array Value) (n:Nat),K.lookup a=some o/\o.cls=.type "list"/\o.dict=none/\o.data=.seq its n/\its.size<=sizeLine/\Vals xs its.toList
def zH (H:Hp) (a:Addr) (ks:List (List Key)) (tk:Bool) (vs:List V):Prop:=match tk with
 | true=>∃ ws,Rd H a (.dT ws)/\ks=ws.map (·.1)/\vs=ws.map (·.2)
 | false=>∃ ws,Rd H a (.dK ws)/\ks=ws.map (fun p=>[p.1])/\vs=ws.map (·.2)
mutual
def aM (K:PySem.W.Frag) (H:Hp) (M:aF):U->V->Prop
 | .non,v=>v=.non
 | .bl b,v=>v=.bl b
 | .int i,v=>v=.int i
 | .str x,v=>v=.str x
 | .ty n,v=>v=.ty n
 | .ref a,v=>v=.ref a
 | .tup us,v=>∃ a vs,v=.ref a/\(M a=none/\H a=some (.tup vs))/\aJ K H M us vs
 | .dic ks tk us,v=>∃ a vs,v=.ref a/\M a=none/\zH H a ks tk vs/\aJ K H M us vs
 | .lst us,v=>∃ a vs,v=.ref a/\((M a=none/\Rd H a (.lst vs))\/KL K a vs)/\aJ K H M us vs
def aJ (K:PySem.W.Frag) (H:Hp) (M:aF):List U->List V->Prop
 | [],vs=>vs=[]
 | u :: us,vs=>∃ v vs',vs=v :: vs'/\aM K H M u v/\aJ K H M us vs'
end
def OW:HO->Bool
 | .dK _=>true
 | .dT _=>true
 | _=>false
def aR (H:Hp) (M:aF) (H1:Hp) (M1:aF):Prop:=∀ b o,H b=some o->M b=none->(H1 b=some o\/(OW o=true/\∃ ob,H1 b=some (.frz ob o)))/\M1 b=none
theorem aR.by' {H H1:Hp} {M M1:aF} (h:∀ b o,H b=some o->M b=none->H1 b=some o/\M1 b=none):aR H M H1 M1:=fun b o e m=>⟨.inl (h b o e m).1,(h b o e m).2⟩
theorem aR.to {H H1:Hp} {M M1:aF} (st:aR H M H1 M1) {b:Addr} {o:HO} (e:H b=some o) (m:M b=none) (n:OW o=false:=by rfl):H1 b=some o/\M1 b=none:=by
 obtain ⟨h | ⟨h,_⟩,m1⟩:=st b o e m
 ·exact ⟨h,m1⟩
 ·rw [n] at h;cases h
theorem aR.refl (H:Hp) (M:aF):aR H M H M:=.by' fun _ _ h m=>⟨h,m⟩
theorem aR.trans {H H1 H2:Hp} {M M1 M2:aF} (a:aR H M H1 M1) (b:aR H1 M1 H2 M2):aR H M H2 M2:=fun c o h m=>by
 obtain ⟨h1 | ⟨d,ob,h1⟩,m1⟩:=a c o h m
 ·exact b c o h1 m1
 ·obtain ⟨h2,m2⟩:=b.to h1 m1
  exact ⟨.inr ⟨d,ob,h2⟩,m2⟩
theorem Rd.stp {H H1:Hp} {M M1:aF} {a:Addr} {u:HO} (st:aR H M H1 M1) (m:M a=none) (h:Rd H a u):M1 a=none/\Rd H1 a u:=by
 rcases h with h | ⟨o,h⟩
 ·obtain ⟨x | ⟨_,ob,x⟩,y⟩:=st a _ h m
  ·exact ⟨y,.inl x⟩
  ·exact ⟨y,.inr ⟨ob,x⟩⟩
 ·obtain ⟨x,y⟩:=st.to h m;exact ⟨y,.inr ⟨o,x⟩⟩
theorem zH.stp {H H1:Hp} {M M1:aF} {a:Addr} {ks:List (List Key)} {tk:Bool} {vs:List V} (st:aR H M H1 M1) (m:M a=none) (h:zH H a ks tk vs):M1 a=none/\zH H1 a ks tk vs:=by
 cases tk with
 | true=>obtain ⟨ws,e,r⟩:=h;exact ⟨(Rd.stp st m e).1,ws,(Rd.stp st m e).2,r⟩
 | false=>obtain ⟨ws,e,r⟩:=h;exact ⟨(Rd.stp st m e).1,ws,(Rd.stp st m e).2,r⟩
mutual
theorem aM.stp {K:PySem.W.Frag} {H H1:Hp} {M M1:aF} (st:aR H M H1 M1):∀ {u:U} {v:V},aM K H M u v->aM K H1 M1 u v
 | .non,_,h=>by simpa only [aM] using h
 | .bl _,_,h=>by simpa only [aM] using h
 | .int _,_,h=>by simpa only [aM] using h
 | .str _,_,h=>by simpa only [aM] using h
 | .ty _,_,h=>by simpa only [aM] using h
 | .ref _,_,h=>by simpa only [aM] using h
 | .tup us,_,h=>by
  simp only [aM] at h ⊢
  obtain ⟨a,vs,e,h1,h2⟩:=h
  refine ⟨a,vs,e,?_,aJ.stp st h2⟩
  obtain ⟨m,r⟩:=h1
  exact ⟨(st.to r m).2,(st.to r m).1⟩
 | .dic ks tk us,_,h=>by
  simp only [aM] at h ⊢
  obtain ⟨a,vs,e,m,h1,h2⟩:=h
  have q:=zH.stp st m h1
  exact ⟨a,vs,e,q.1,q.2,aJ.stp st h2⟩
 | .lst us,_,h=>by
  simp only [aM] at h ⊢
  obtain ⟨a,vs,e,h1,h2⟩:=h
  refine ⟨a,vs,e,?_,aJ.stp st h2⟩
  rcases h1 with ⟨m,r⟩ | k
  ·exact .inl (Rd.stp st m r)
  ·exact .inr k
theorem aJ.stp {K:PySem.W.Frag} {H H1:Hp} {M M1:aF} (st:aR H M H1 M1):∀ {us:List U} {vs:List V},aJ K H M us vs->aJ K H1 M1 us vs
 | [],_,h=>by simpa only [aJ] using h
 | u :: us,_,h=>by
  simp only [aJ] at h ⊢
  obtain ⟨v,vs',e,h1,h2⟩:=h
  exact ⟨v,vs',e,aM.stp st h1,aJ.stp st h2⟩
end
theorem aR.less {H:Hp} {M M1:aF} (h:∀ b,M b=none->M1 b=none):aR H M H M1:=.by' fun b o e m=>⟨e,h b m⟩
def bJ {κ:Type} (K:PySem.W.Frag) (H:Hp) (M:aF):List (κ × U)->List (κ × V)->Prop:=Paired fun p q=>p.1=q.1/\aM K H M p.2 q.2
theorem bJ.stp {κ:Type} {K:PySem.W.Frag} {H H1:Hp} {M M1:aF} (st:aR H M H1 M1):∀ {us:List (κ × U)} {vs:List (κ × V)},bJ K H M us vs->bJ K H1 M1 us vs
 | _,_,.nil=>.nil
 | _,_,.cons h t=>.cons ⟨h.1,h.2.stp st⟩ (bJ.stp st t)
def yT (K:PySem.W.Frag) (H:Hp) (M:aF) (a:Addr):MO->Prop
 | .lst us=>∃ vs,H a=some (.lst vs)/\aJ K H M us vs
 | .dK kvs=>∃ ws,H a=some (.dK ws)/\bJ K H M kvs ws
 | .dT kvs=>∃ ws,H a=some (.dT ws)/\bJ K H M kvs ws
 | .dN kvs=>∃ ws,H a=some (.dN ws)/\bJ K H M kvs ws
 | .ins C dx kvs=>∃ ws,H a=some (.ins C dx ws)/\bJ K H M kvs ws
 | .cap ps vs us=>H a=some (.tbl ps)/\aJ K H M us vs
 | .tbl q=>(∀ b,M b=some (.tbl q)->b=a)/\∃ ps,H a=some (.tbl ps)/\TriplesOk ps.toList/\∀ pos c,codeAmong pos ps.toList=some c->∃ c' oc vs t,c=.ref c'/\H c'=some (.frz oc (.own 0))/\M c'=none/\oc.data=.fields vs/\vs[1]?=some (.str q t)
def RelM (K:PySem.W.Frag) (H:Hp) (M:aF):Prop:=∀ a mo,M a=some mo->yT K H M a mo
theorem yT.stp {K:PySem.W.Frag} {H H1:Hp} {M M1:aF} {a:Addr} {mo:MO} (hu:∀ b q,M1 b=some (.tbl q)->M b=some (.tbl q)) (st:aR H M H1 M1) (e:H1 a=H a) (h:yT K H M a mo):yT K H1 M1 a mo:=by
 cases mo with
 | lst us=>obtain ⟨vs,x,y⟩:=h;exact ⟨vs,e.trans x,y.stp st⟩
 | dK us=>obtain ⟨vs,x,y⟩:=h;exact ⟨vs,e.trans x,y.stp st⟩
 | dT us=>obtain ⟨vs,x,y⟩:=h;exact ⟨vs,e.trans x,y.stp st⟩
 | dN us=>obtain ⟨vs,x,y⟩:=h;exact ⟨vs,e.trans x,y.stp st⟩
 | ins C dx us=>obtain ⟨vs,x,y⟩:=h;exact ⟨vs,e.trans x,y.stp st⟩
 | cap ps vs us=>exact ⟨e.trans h.1,h.2.stp st⟩
 | tbl q =>
  obtain ⟨un,ps,x,y,z⟩:=h
  refine ⟨fun b hb=>un b (hu b q hb),ps,e.trans x,y,fun pos c hc=>?_⟩
  obtain ⟨c',oc,vs,t,h1,h2,h3,h4⟩:=z pos c hc
  exact ⟨c',oc,vs,t,h1,(st.to h2 h3).1,(st.to h2 h3).2,h4⟩
theorem RelM.ex {K:PySem.W.Frag} {H:Hp} {M:aF} (r:RelM K H M) {a:Addr} {mo:MO} (h:M a=some mo):∃ o,H a=some o:=by
 have:=r a mo h
 cases mo with
 | lst us=>obtain ⟨vs,x,y⟩:=this;exact ⟨_,x⟩
 | dK us=>obtain ⟨vs,x,y⟩:=this;exact ⟨_,x⟩
 | dT us=>obtain ⟨vs,x,y⟩:=this;exact ⟨_,x⟩
 | dN us=>obtain ⟨vs,x,y⟩:=this;exact ⟨_,x⟩
 | ins C dx us=>obtain ⟨vs,x,y⟩:=this;exact ⟨_,x⟩
 | cap ps vs us=>exact ⟨_,this.1⟩
 | tbl q=>obtain ⟨_,ps,x,_⟩:=this;exact ⟨_,x⟩
theorem RelM.no {K:PySem.W.Frag} {H:Hp} {M:aF} (r:RelM K H M) {a:Addr} (h:H a=none):M a=none:=by
 cases e:M a with
 | none=>rfl
 | some mo=>obtain ⟨o,q⟩:=r.ex e;rw [h] at q;cases q
theorem aR.laid {K:PySem.W.Frag} {H:Hp} {M:aF} {p:Addr} {o:HO} (r:RelM K H M) (h:H p=none):aR H M (upd H p o) M:=.by' fun b u e m=>⟨by rw [bL (cI e h)];exact e,m⟩
theorem RelM.laid {K:PySem.W.Frag} {H:Hp} {M:aF} {p:Addr} {o:HO} (r:RelM K H M) (h:H p=none):RelM K (upd H p o) M:=fun a mo e=>by
 obtain ⟨u,q⟩:=r.ex e
 exact (r a mo e).stp (fun _ _ z=>z) (aR.laid r h) (bL (cI q h))
theorem aR.own {K:PySem.W.Frag} {H:Hp} {M:aF} {p:Addr} {o:HO} {mo:MO} (r:RelM K H M) (h:H p=none):aR H M (upd H p o) (mup M p mo):=.by' fun b u e m=>by
 have n:=cI e h
 exact ⟨by rw [bL n];exact e,by rw [aG n];exact m⟩
theorem RelM.put {K:PySem.W.Frag} {H:Hp} {M:aF} {p:Addr} {o:HO} {mo:MO} (r:RelM K H M) (st:aR H M (upd H p o) (mup M p mo)) (new:yT K (upd H p o) (mup M p mo) p mo) (hm:∀ q,mo≠.tbl q:=by intro q z;cases z):RelM K (upd H p o) (mup M p mo):=fun a m e=>by
 by_cases ha:a=p
 ·subst ha;rw [aD] at e;cases e;exact new
 ·rw [aG ha] at e
  refine (r a m e).stp (fun b q z=>?_) st (bL ha)
  by_cases hb:b=p
  ·subst hb;rw [aD] at z;exact absurd (Option.some.inj z) (hm q)
  ·rw [aG hb] at z;exact z
theorem aR.write {H:Hp} {M:aF} {p:Addr} {o:HO} {mo m0:MO} (h:M p=some m0):aR H M (upd H p o) (mup M p mo):=.by' fun b u e m=>by
 have n:b≠p:=fun z=>by subst z;rw [h] at m;cases m
 exact ⟨by rw [bL n];exact e,by rw [aG n];exact m⟩
section
variable {K:PySem.W.Frag} {H:Hp} {M:aF}
theorem aJ.nil:aJ K H M [] []:=by simp only [aJ]
theorem aJ.cons {u:U} {v:V} {us:List U} {vs:List V} (h:aM K H M u v) (t:aJ K H M us vs):aJ K H M (u :: us) (v :: vs):=by simp only [aJ];exact ⟨v,vs,rfl,h,t⟩
theorem aJ.length:∀ {us:List U} {vs:List V},aJ K H M us vs->us.length=vs.length
 | [],_,h=>by simp only [aJ] at h;subst h;rfl
 | u :: us,_,h=>by
  simp only [aJ] at h
  obtain ⟨v,vs',rfl,_,t⟩:=h
  simp [aJ.length t]
theorem aJ.inv_cons {u:U} {us:List U} {vs:List V} (h:aJ K H M (u :: us) vs):∃ v vs',vs=v :: vs'/\aM K H M u v/\aJ K H M us vs':=by simpa only [aJ] using h
theorem aJ.inv_nil {vs:List V} (h:aJ K H M [] vs):vs=[]:=by simpa only [aJ] using h
theorem aJ.append:∀ {us ws:List U} {vs zs:List V},aJ K H M us vs->aJ K H M ws zs->aJ K H M (us++ws) (vs++zs)
 | [],_,_,_,h,t=>by cases h.inv_nil;exact t
 | u :: us,_,_,_,h,t=>by
  obtain ⟨v,vs',rfl,a,b⟩:=h.inv_cons
  exact .cons a (aJ.append b t)
theorem aJ.get:∀ {us:List U} {vs:List V} {i:Nat} {u:U},aJ K H M us vs->us[i]?=some u->∃ v,vs[i]?=some v/\aM K H M u v
 | [],_,_,_,_,e=>by simp at e
 | u :: us,_,0,_,h,e=>by
  obtain ⟨v,vs',rfl,a,b⟩:=h.inv_cons
  simp at e;subst e;exact ⟨v,rfl,a⟩
 | u :: us,_,i + 1,_,h,e=>by
  obtain ⟨v,vs',rfl,a,b⟩:=h.inv_cons
  simp at e
  obtain ⟨w,x,y⟩:=aJ.get b e
  exact ⟨w,by simpa using x,y⟩
theorem aJ.drop:∀ {us:List U} {vs:List V} (n:Nat),aJ K H M us vs->aJ K H M (us.drop n) (vs.drop n)
 | _,_,0,h=>h
 | [],_,_ + 1,h=>by cases h.inv_nil;exact .nil
 | u :: us,_,n + 1,h=>by
  obtain ⟨v,vs',rfl,a,b⟩:=h.inv_cons
  exact aJ.drop n b
theorem aJ.take:∀ {us:List U} {vs:List V} (n:Nat),aJ K H M us vs->aJ K H M (us.take n) (vs.take n)
 | _,_,0,_=>by simp only [List.take_zero];exact .nil
 | [],_,_ + 1,h=>by cases h.inv_nil;exact .nil
 | u :: us,_,n + 1,h=>by
  obtain ⟨v,vs',rfl,a,b⟩:=h.inv_cons
  exact .cons a (aJ.take n b)
theorem aJ.set {u:U} {v:V} (r:aM K H M u v):∀ {us:List U} {vs:List V} (i:Nat),aJ K H M us vs->aJ K H M (us.set i u) (vs.set i v)
 | [],_,_,h=>by cases h.inv_nil;exact .nil
 | w :: us,_,0,h=>by
  obtain ⟨z,vs',rfl,a,b⟩:=h.inv_cons
  exact .cons r b
 | w :: us,_,i + 1,h=>by
  obtain ⟨z,vs',rfl,a,b⟩:=h.inv_cons
  exact .cons a (aJ.set r i b)
end
abbrev SU:=List (Option U)
abbrev UK:=U->aF->Prop
abbrev UE:=SU->aF->UK->Prop
abbrev UT:=SU->aF->(Bool->aF->Prop)->Prop
abbrev UA:=SU->aF->(List U->aF->Prop)->Prop
structure qA where
 nx:SU->aF->Prop
 rt:UK
 bk:SU->aF->Prop:=fun _ _=>False
 ct:SU->aF->Prop:=fun _ _=>False
abbrev US:=qA->SU->aF->Prop
def eJ (K:PySem.W.Frag) (H:Hp) (M:aF) (σ:St) (τ:SU):Prop:=τ.length=σ.length/\∀ (i:Nat) u,τ[i]?=some (some u)->∃ v,σ[i]?=some (some v)/\aM K H M u v
theorem eJ.stp {K:PySem.W.Frag} {H H1:Hp} {M M1:aF} {σ:St} {τ:SU} (st:aR H M H1 M1) (r:eJ K H M σ τ):eJ K H1 M1 σ τ:=⟨r.1,fun i u e=>let ⟨v,a,b⟩:=r.2 i u e;⟨v,a,b.stp st⟩⟩
theorem eJ.set {K:PySem.W.Frag} {H:Hp} {M:aF} {σ:St} {τ:SU} {i:Nat} {u:U} {v:V} (r:eJ K H M σ τ) (h:aM K H M u v):eJ K H M (σ.set i (some v)) (τ.set i (some u)):=by
 refine ⟨by simp [r.1],fun j w e=>?_⟩
 rw [List.getElem?_set] at e ⊢
 split at e
 ·rename_i hij
  subst hij
  split at e
  ·rename_i hl
   cases e
   rw [if_pos rfl,if_pos (by rw [<- r.1];exact hl)]
   exact ⟨v,rfl,h⟩
  ·cases e
 ·rename_i hij
  rw [if_neg hij]
  exact r.2 j w e
def bS (K:PySem.W.Frag) (t:TE) (t':UE):Prop:=∀ (σ:St) (τ:SU) (H:Hp) (M:aF) (Q':UK),eJ K H M σ τ->RelM K H M->t' τ M Q' ->
 ∀ Q:VK,(∀ u v M1 H1,aR H M H1 M1->RelM K H1 M1->aM K H1 M1 u v->Q' u M1->Q v H1)->t σ H Q
def kK (K:PySem.W.Frag) (t:TT) (t':UT):Prop:=∀ (σ:St) (τ:SU) (H:Hp) (M:aF) (Q':Bool->aF->Prop),eJ K H M σ τ->RelM K H M->t' τ M Q' ->
 ∀ Q:Bool->Hp->Prop,(∀ b M1 H1,aR H M H1 M1->RelM K H1 M1->Q' b M1->Q b H1)->t σ H Q
def jK (K:PySem.W.Frag) (t:TA) (t':UA):Prop:=∀ (σ:St) (τ:SU) (H:Hp) (M:aF) (Q':List U->aF->Prop),eJ K H M σ τ->RelM K H M->t' τ M Q' ->
 ∀ Q:List V->Hp->Prop,(∀ us vs M1 H1,aR H M H1 M1->RelM K H1 M1->aJ K H1 M1 us vs->Q' us M1->Q vs H1)->t σ H Q
structure Fp (K:PySem.W.Frag) (H:Hp) (M:aF) (D:Ends) (D':qA):Prop where
 nx:∀ σ τ H1 M1,aR H M H1 M1->RelM K H1 M1->eJ K H1 M1 σ τ->D'.nx τ M1->D.nx σ H1
 rt:∀ u v H1 M1,aR H M H1 M1->RelM K H1 M1->aM K H1 M1 u v->D'.rt u M1->D.rt v H1
 bk:∀ σ τ H1 M1,aR H M H1 M1->RelM K H1 M1->eJ K H1 M1 σ τ->D'.bk τ M1->D.bk σ H1
 ct:∀ σ τ H1 M1,aR H M H1 M1->RelM K H1 M1->eJ K H1 M1 σ τ->D'.ct τ M1->D.ct σ H1
theorem Fp.stp {K:PySem.W.Frag} {H H1:Hp} {M M1:aF} {D:Ends} {D':qA} (d:Fp K H M D D') (st:aR H M H1 M1):Fp K H1 M1 D D' :=
 ⟨fun σ τ H2 M2 s=>d.nx σ τ H2 M2 (st.trans s),fun u v H2 M2 s=>d.rt u v H2 M2 (st.trans s),fun σ τ H2 M2 s=>d.bk σ τ H2 M2 (st.trans s),fun σ τ H2 M2 s=>d.ct σ τ H2 M2 (st.trans s)⟩
def lM (K:PySem.W.Frag) (t:TS) (t':US):Prop:=∀ (σ:St) (τ:SU) (H:Hp) (M:aF) (D':qA),eJ K H M σ τ->RelM K H M->t' D' τ M->∀ D:Ends,Fp K H M D D'->t D σ H
end U2
namespace U2
open PySem L2
abbrev dQ:=U->U->aF->UK->Prop
def dH (K:PySem.W.Frag) (H:Hp) (M:aF) (Q':UK) (Q:VK):Prop:=∀ u v M1 H1,aR H M H1 M1->RelM K H1 M1->aM K H1 M1 u v->Q' u M1->Q v H1
theorem dH.stp {K:PySem.W.Frag} {H H1:Hp} {M M1:aF} {Q':UK} {Q:VK} (c:dH K H M Q' Q) (st:aR H M H1 M1):dH K H1 M1 Q' Q:=fun u v M2 H2 s=>c u v M2 H2 (st.trans s)
theorem dH.here {K:PySem.W.Frag} {H:Hp} {M:aF} {Q':UK} {Q:VK} {u:U} {v:V} (c:dH K H M Q' Q) (rm:RelM K H M) (r:aM K H M u v) (q:Q' u M):Q v H:=c u v M H (aR.refl H M) rm r q
def dJ (K:PySem.W.Frag) (r:R2) (r':dQ):Prop:=∀ (x y:V) (u w:U) (H:Hp) (M:aF) (Q':UK),RelM K H M->aM K H M u x->aM K H M w y->r' u w M Q'->∀ Q:VK,dH K H M Q' Q->r x y H Q
def vQ (K:PySem.W.Frag) (r:List V->Hp->VK->Prop) (r':List U->aF->UK->Prop):Prop:=∀ (xs:List V) (us:List U) (H:Hp) (M:aF) (Q':UK),RelM K H M->aJ K H M us xs->r' us M Q'->∀ Q:VK,dH K H M Q' Q->r xs H Q
def u2 (K:PySem.W.Frag) (r:V->List V->Hp->VK->Prop) (r':U->List U->aF->UK->Prop):Prop:=∀ (x:V) (xs:List V) (u:U) (us:List U) (H:Hp) (M:aF) (Q':UK),RelM K H M->aM K H M u x->aJ K H M us xs->r' u us M Q'->∀ Q:VK,dH K H M Q' Q->r x xs H Q
section
variable {K:PySem.W.Frag} {H:Hp} {M:aF} {v:V}
theorem aM.non (h:aM K H M .non v):v=.non:=by simpa only [aM] using h
theorem aM.bl {b:Bool} (h:aM K H M (.bl b) v):v=.bl b:=by simpa only [aM] using h
theorem aM.int {i:Int} (h:aM K H M (.int i) v):v=.int i:=by simpa only [aM] using h
theorem aM.str {x:Str} (h:aM K H M (.str x) v):v=.str x:=by simpa only [aM] using h
theorem aM.ty {n:String} (h:aM K H M (.ty n) v):v=.ty n:=by simpa only [aM] using h
theorem aM.ref {a:Addr} (h:aM K H M (.ref a) v):v=.ref a:=by simpa only [aM] using h
theorem aM.tup {us:List U} (h:aM K H M (.tup us) v):∃ a vs,v=.ref a/\eP K H a vs/\aJ K H M us vs:=by
 simp only [aM] at h
 obtain ⟨a,vs,e,h1,h2⟩:=h
 refine ⟨a,vs,e,?_,h2⟩
 exact .inl (.inl h1.2)
theorem aM.lst {us:List U} (h:aM K H M (.lst us) v):∃ a vs,v=.ref a/\eC K H a vs/\aJ K H M us vs:=by
 simp only [aM] at h
 obtain ⟨a,vs,e,h1,h2⟩:=h
 refine ⟨a,vs,e,?_,h2⟩
 rcases h1 with ⟨_,r⟩ | k
 ·exact .inl r
 ·exact .inr k
theorem lN:aM K H M .non .non:=by simp only [aM]
theorem fL {b:Bool}:aM K H M (.bl b) (.bl b):=by simp only [aM]
theorem dE {i:Int}:aM K H M (.int i) (.int i):=by simp only [aM]
theorem lL {x:Str}:aM K H M (.str x) (.str x):=by simp only [aM]
theorem jB {a:Addr}:aM K H M (.ref a) (.ref a):=by simp only [aM]
theorem xD {a:Addr} {us:List U} {vs:List V} (m:M a=none) (h:H a=some (.tup vs)) (r:aJ K H M us vs):aM K H M (.tup us) (.ref a):=by
 simp only [aM];exact ⟨a,vs,rfl,⟨m,h⟩,r⟩
theorem sY {a:Addr} {us:List U} {vs:List V} (m:M a=none) (h:H a=some (.lst vs)) (r:aJ K H M us vs):aM K H M (.lst us) (.ref a):=by
 simp only [aM];exact ⟨a,vs,rfl,.inl ⟨m,.inl h⟩,r⟩
theorem dH.tup {Q':UK} {Q:VK} {us:List U} {vs:List V} {p:Addr} (c:dH K H M Q' Q) (rm:RelM K H M) (r:aJ K H M us vs) (hp:H p=none) (q:Q' (.tup us) M):Q (.ref p) (upd H p (.tup vs)) :=
 c _ _ M _ (aR.laid rm hp) (rm.laid hp) (xD (rm.no hp) cE (r.stp (aR.laid rm hp))) q
def iH (o:Bool) (us:List U) (M:aF) (Q:UK):Prop:=match o with
 | true=>∀ p,M p=none->Q (.ref p) (mup M p (.lst us))
 | false=>Q (.lst us) M
theorem dH.lst {o:Bool} {Q':UK} {Q:VK} {us:List U} {vs:List V} {p:Addr} (c:dH K H M Q' Q) (rm:RelM K H M) (r:aJ K H M us vs) (hp:H p=none) (q:iH o us M Q'):Q (.ref p) (upd H p (.lst vs)):=by
 cases o with
 | false=>exact c _ _ M _ (aR.laid rm hp) (rm.laid hp) (sY (rm.no hp) cE (r.stp (aR.laid rm hp))) q
 | true =>
  have st:aR H M (upd H p (.lst vs)) (mup M p (.lst us)):=aR.own rm hp
  exact c (.ref p) _ _ _ st (rm.put st ⟨vs,cE,r.stp st⟩) jB (q p (rm.no hp))
end
def view (M:aF):U->U
 | .ref a=>match M a with
  | some (.lst us)=>.lst us
  | _=>.ref a
 | u=>u
theorem bT {M:aF} {a:Addr} {us:List U} (h:M a=some (.lst us)):view M (.ref a)=.lst us:=by simp only [view,h]
theorem eW {K:PySem.W.Frag} {H:Hp} {M:aF} {u:U} {v:V} {us:List U} (rm:RelM K H M) (r:aM K H M u v) (h:view M u=.lst us):∃ a vs,v=.ref a/\eC K H a vs/\aJ K H M us vs:=by
 cases u with
 | lst ws=>simp only [view] at h;cases h;exact r.lst
 | ref a =>
  simp only [view] at h
  split at h
  ·rename_i ws e
   cases h
   obtain ⟨vs,h1,h2⟩:=rm a _ e
   exact ⟨a,vs,r.ref,.inl (.inl h1),h2⟩
  ·cases h
 | _=>simp [view] at h
section
variable {K:PySem.W.Frag} {t ta tb tc:TE} {t' ta' tb' tc':UE}
def oU (i:Nat):UE:=fun τ M Q=>match τ[i]? with
 | some (some u)=>Q u M
 | _=>False
theorem Ek (i:Nat):bS K (K4 i) (oU i):=fun σ τ H M Q' rs rm h Q c=>by
 unfold oU at h
 split at h
 ·rename_i u e
  obtain ⟨v,e2,r⟩:=rs.2 i u e
  exact ⟨v,e2,c u v M H (aR.refl _ _) rm r h⟩
 ·exact h.elim
def uC (u:U):UE:=fun _ M Q=>Q u M
theorem yH {u:U} {v:V} (h:∀ H M,aM K H M u v):bS K (tC v) (uC u):=fun σ τ H M Q' rs rm q Q c=>c u v M H (aR.refl _ _) rm (h H M) q
theorem Oj {i:Int}:bS K (tC (.int i)) (uC (.int i)):=yH fun _ _=>dE
theorem QD {i:Bool}:bS K (tC (.bl i)) (uC (.bl i)):=yH fun _ _=>fL
theorem N9 {i:Str}:bS K (tC (.str i)) (uC (.str i)):=yH fun _ _=>lL
theorem MF:bS K (tC .non) (uC .non):=yH fun _ _=>lN
theorem Nv {a:Addr}:bS K (tC (.ref a)) (uC (.ref a)):=yH fun _ _=>jB
def mG (r:dQ) (ta tb:UE):UE:=fun τ M Q=>ta τ M fun x M1=>tb τ M1 fun y M2=>r x y M2 Q
theorem uD {r:R2} {r':dQ} (hr:dJ K r r') (ha:bS K ta ta') (hb:bS K tb tb'):bS K (En r ta tb) (mG r' ta' tb'):=fun σ τ H M Q' rs rm h Q c =>
 ha σ τ H M _ rs rm h _ fun u v M1 H1 s1 rm1 ru h1=>hb σ τ H1 M1 _ (rs.stp s1) rm1 h1 _ fun w x M2 H2 s2 rm2 rw h2=>hr v x u w H2 M2 Q' rm2 (ru.stp s2) rw h2 Q (dH.stp c (s1.trans s2))
def LK (r:U->aF->UK->Prop) (ta:UE):UE:=fun τ M Q=>ta τ M fun x M1=>r x M1 Q
def sX (t:UE):UT:=fun τ M Q=>t τ M fun u M1=>match u with
 | .bl b=>Q b M1
 | _=>False
theorem KP (h:bS K t t'):kK K (LI t) (sX t'):=fun σ τ H M Q' rs rm q Q c=>h σ τ H M _ rs rm q _ fun u v M1 H1 s1 rm1 ru h1=>by
 cases u with
 | bl b=>exact ⟨b,ru.bl,c b M1 H1 s1 rm1 h1⟩
 | _=>exact h1.elim
def Ap (t:UE):UT:=fun τ M Q=>t τ M fun u M1=>match view M1 u with
 | .non=>Q false M1
 | .bl b=>Q b M1
 | .int i=>Q (i != 0) M1
 | .str x=>x.length<=sizeLine/\Q ((x.length:Int) != 0) M1
 | .tup us=>Q (!us.isEmpty) M1
 | .lst us=>Q (!us.isEmpty) M1
 | _=>False
theorem wF {H:Hp} {M:aF} {us:List U} {vs:List V} (r:aJ K H M us vs):us.isEmpty=vs.isEmpty:=by
 have:=r.length
 cases us <;> cases vs <;> simp_all
theorem Oe (h:bS K t t'):kK K (fun σ H Q=>t σ H fun x H'=>∃ k,JB K x H' k/\Q k H') (Ap t'):=fun σ τ H M Q' rs rm q Q c=>h σ τ H M _ rs rm q _ fun u v M1 H1 s1 rm1 ru h1=>by
 split at h1
 ·rename_i e
  cases u with
  | non=>exact ⟨false,by rw [ru.non];rfl,c _ M1 H1 s1 rm1 h1⟩
  | ref a=>simp only [view] at e;split at e <;> cases e
  | _=>simp [view] at e
 ·rename_i b e
  cases u with
  | bl b'=>simp only [view] at e;cases e;exact ⟨b,by rw [ru.bl];rfl,c _ M1 H1 s1 rm1 h1⟩
  | ref a=>simp only [view] at e;split at e <;> cases e
  | _=>simp [view] at e
 ·rename_i b e
  cases u with
  | int b'=>simp only [view] at e;cases e;exact ⟨b != 0,by rw [ru.int];rfl,c _ M1 H1 s1 rm1 h1⟩
  | ref a=>simp only [view] at e;split at e <;> cases e
  | _=>simp [view] at e
 ·rename_i b e
  cases u with
  | str b'=>simp only [view] at e;cases e;exact ⟨(b.length:Int) != 0,by rw [ru.str];exact ⟨h1.1,rfl⟩,c _ M1 H1 s1 rm1 h1.2⟩
  | ref a=>simp only [view] at e;split at e <;> cases e
  | _=>simp [view] at e
 ·rename_i us e
  cases u with
  | tup us' =>
   simp only [view] at e;cases e
   obtain ⟨a,vs,rfl,r1,r2⟩:=ru.tup
   exact ⟨!vs.isEmpty,.inr (.inl ⟨vs,r1,rfl⟩),c _ M1 H1 s1 rm1 (by rw [<- wF r2];exact h1)⟩
  | ref a=>simp only [view] at e;split at e <;> cases e
  | _=>simp [view] at e
 ·rename_i us e
  obtain ⟨a,vs,rfl,r1,r2⟩:=eW rm1 ru e
  exact ⟨!vs.isEmpty,.inl ⟨vs,r1,rfl⟩,c _ M1 H1 s1 rm1 (by rw [<- wF r2];exact h1)⟩
 ·exact h1.elim
def zY (t u:UT):UT:=fun τ M Q=>t τ M fun c M1=>if c=true then u τ M1 Q else Q false M1
def EI (t u:UT):UT:=fun τ M Q=>t τ M fun c M1=>if c=true then Q true M1 else u τ M1 Q
def Az (t:UT):UT:=fun τ M Q=>t τ M fun c M1=>Q (!c) M1
theorem M8 {t u:TT} {t' u':UT} (h:kK K t t') (k:kK K u u'):kK K (Pa t u) (zY t' u'):=fun σ τ H M Q' rs rm q Q c=>h σ τ H M _ rs rm q _ fun b M1 H1 s1 rm1 h1=>by
 cases b with
 | true=>exact k σ τ H1 M1 Q' (rs.stp s1) rm1 h1 Q fun b M2 H2 s2=>c b M2 H2 (s1.trans s2)
 | false=>exact c _ M1 H1 s1 rm1 h1
theorem QA {t u:TT} {t' u':UT} (h:kK K t t') (k:kK K u u'):kK K (RL t u) (EI t' u'):=fun σ τ H M Q' rs rm q Q c=>h σ τ H M _ rs rm q _ fun b M1 H1 s1 rm1 h1=>by
 cases b with
 | false=>exact k σ τ H1 M1 Q' (rs.stp s1) rm1 h1 Q fun b M2 H2 s2=>c b M2 H2 (s1.trans s2)
 | true=>exact c _ M1 H1 s1 rm1 h1
theorem Nr {t:TT} {t':UT} (h:kK K t t'):kK K (PL t) (Az t'):=fun σ τ H M Q' rs rm q Q c=>h σ τ H M _ rs rm q _ fun b M1 H1 s1 rm1 h1=>c _ M1 H1 s1 rm1 h1
def vN (ta tb:UE):UE:=fun τ M Q=>ta τ M fun x M1=>match x with
 | .bl c=>if c=true then tb τ M1 Q else Q (.bl false) M1
 | _=>False
def GV (ta tb:UE):UE:=fun τ M Q=>ta τ M fun x M1=>match x with
 | .bl c=>if c=true then Q (.bl true) M1 else tb τ M1 Q
 | _=>False
def BR (ta:UE):UE:=fun τ M Q=>ta τ M fun x M1=>match x with
 | .bl c=>Q (.bl (!c)) M1
 | _=>False
theorem J1 (h:bS K ta ta') (k:bS K tb tb'):bS K (Mb ta tb) (vN ta' tb'):=fun σ τ H M Q' rs rm q Q c=>h σ τ H M _ rs rm q _ fun u v M1 H1 s1 rm1 ru h1=>by
 cases u with
 | bl b =>
  refine ⟨b,ru.bl,?_⟩
  cases b with
  | true=>exact k σ τ H1 M1 Q' (rs.stp s1) rm1 h1 Q (dH.stp c s1)
  | false=>exact c _ _ M1 H1 s1 rm1 fL h1
 | _=>exact h1.elim
def Es (t:UT) (ta tb:UE):UE:=fun τ M Q=>t τ M fun c M1=>if c=true then ta τ M1 Q else tb τ M1 Q
theorem Ph {t:TT} {t':UT} (h:kK K t t') (k:bS K ta ta') (l:bS K tb tb'):bS K (RF t ta tb) (Es t' ta' tb'):=fun σ τ H M Q' rs rm q Q c=>h σ τ H M _ rs rm q _ fun b M1 H1 s1 rm1 h1=>by
 cases b with
 | true=>exact k σ τ H1 M1 Q' (rs.stp s1) rm1 h1 Q (dH.stp c s1)
 | false=>exact l σ τ H1 M1 Q' (rs.stp s1) rm1 h1 Q (dH.stp c s1)
def qX (r r':dQ) (ta tb tc:UE):UE:=fun τ M Q=>ta τ M fun x M1=>tb τ M1 fun y M2=>r x y M2 fun z M3=>match z with
 | .bl k=>if k=true then tc τ M3 fun w M4=>r' y w M4 Q else Q (.bl false) M3
 | _=>False
theorem Hl {r r':R2} {s s':dQ} (hr:dJ K r s) (hr':dJ K r' s') (ha:bS K ta ta') (hb:bS K tb tb') (hc:bS K tc tc'):bS K (IY r r' ta tb tc) (qX s s' ta' tb' tc'):=fun σ τ H M Q' rs rm h Q c =>
 ha σ τ H M _ rs rm h _ fun u v M1 H1 s1 rm1 ru h1=>hb σ τ H1 M1 _ (rs.stp s1) rm1 h1 _ fun w x M2 H2 s2 rm2 rw h2 =>
  hr v x u w H2 M2 _ rm2 (ru.stp s2) rw h2 _ fun z zv M3 H3 s3 rm3 rz h3=>by
   cases z with
   | bl k =>
    refine ⟨k,rz.bl,?_⟩
    cases k with
    | true=>exact hc σ τ H3 M3 _ ((rs.stp s1).stp (s2.trans s3)) rm3 h3 _ fun w2 x2 M4 H4 s4 rm4 rw4 h4=>hr' x x2 w w2 H4 M4 Q' rm4 (rw.stp (s3.trans s4)) rw4 h4 Q (dH.stp c (((s1.trans s2).trans s3).trans s4))
    | false=>exact c _ _ M3 H3 ((s1.trans s2).trans s3) rm3 fL h3
   | _=>exact h3.elim
def uZ:UA:=fun _ M Q=>Q [] M
def n6 (ta:UE) (tr:UA):UA:=fun τ M Q=>ta τ M fun x M1=>tr τ M1 fun xs M2=>Q (x :: xs) M2
theorem MP:jK K Pg uZ:=fun σ τ H M Q' rs rm q Q c=>c [] [] M H (aR.refl _ _) rm .nil q
theorem JK {tr:TA} {tr':UA} (ha:bS K ta ta') (hr:jK K tr tr'):jK K (LW ta tr) (n6 ta' tr'):=fun σ τ H M Q' rs rm h Q c =>
 ha σ τ H M _ rs rm h _ fun u v M1 H1 s1 rm1 ru h1=>hr σ τ H1 M1 _ (rs.stp s1) rm1 h1 _ fun us vs M2 H2 s2 rm2 rus h2=>c (u :: us) (v :: vs) M2 H2 (s1.trans s2) rm2 (.cons (ru.stp s2) rus) h2
def Ab (t:UA):UE:=fun τ M Q=>t τ M fun us M1=>us.length<=sizeLine/\Q (.tup us) M1
def Ax (o:Bool) (t:UA):UE:=fun τ M Q=>t τ M fun us M1=>us.length<=sizeLine/\iH o us M1 Q
theorem M9 {t:TA} {t':UA} (h:jK K t t'):bS K (Pm t) (Ab t'):=fun σ τ H M Q' rs rm q Q c =>
 h σ τ H M _ rs rm q _ fun us vs M1 H1 s1 rm1 r h1=>⟨by rw [<- r.length];exact h1.1,fun p hp=>(dH.stp c s1).tup rm1 r hp h1.2⟩
theorem MU {o:Bool} {t:TA} {t':UA} (h:jK K t t'):bS K (O2 t) (Ax o t'):=fun σ τ H M Q' rs rm q Q c =>
 h σ τ H M _ rs rm q _ fun us vs M1 H1 s1 rm1 r h1=>⟨by rw [<- r.length];exact h1.1,fun p hp=>(dH.stp c s1).lst rm1 r hp h1.2⟩
def CQ (r:List U->aF->UK->Prop) (t:UA):UE:=fun τ M Q=>t τ M fun us M1=>r us M1 Q
theorem IB {r:List V->Hp->VK->Prop} {r':List U->aF->UK->Prop} {t:TA} {t':UA} (hr:vQ K r r') (h:jK K t t'):bS K (OG r t) (CQ r' t'):=fun σ τ H M Q' rs rm q Q c =>
 h σ τ H M _ rs rm q _ fun us vs M1 H1 s1 rm1 ru h1=>hr vs us H1 M1 Q' rm1 ru h1 Q (dH.stp c s1)
end
end U2
namespace U2
open PySem L2
section
variable {K:PySem.W.Frag}
def tT (g:Int->Int->U):dQ:=fun x y M Q=>match x,y with
 | .int i,.int j=>Q (g i j) M
 | _,_=>False
def uI (C:Int->Int->Prop) (g:Int->Int->U):dQ:=fun x y M Q=>match x,y with
 | .int i,.int j=>C i j/\Q (g i j) M
 | _,_=>False
theorem HR {g:Int->Int->V} {g':Int->Int->U} (hg:∀ H M i j,aM K H M (g' i j) (g i j)):dJ K (tO g) (tT g'):=fun x y u w H M Q' rm ru rw h Q c=>by
 cases u with
 | int i=>cases w with
  | int j=>exact ⟨i,j,ru.int,rw.int,c _ _ M H (aR.refl _ _) rm (hg H M i j) h⟩
  | _=>exact h.elim
 | _=>exact h.elim
theorem Q7 {C:Int->Int->Prop} {g:Int->Int->V} {g':Int->Int->U} (hg:∀ H M i j,aM K H M (g' i j) (g i j)):dJ K (rI C g) (uI C g'):=fun x y u w H M Q' rm ru rw h Q c=>by
 cases u with
 | int i=>cases w with
  | int j=>exact ⟨i,j,ru.int,rw.int,h.1,c _ _ M H (aR.refl _ _) rm (hg H M i j) h.2⟩
  | _=>exact h.elim
 | _=>exact h.elim
theorem C7 {f:Int->Int->Int}:dJ K (tO fun i j=>.int (f i j)) (tT fun i j=>.int (f i j)):=HR fun _ _ _ _=>dE
theorem qC {f:Int->Int->Bool}:dJ K (tO fun i j=>.bl (f i j)) (tT fun i j=>.bl (f i j)):=HR fun _ _ _ _=>fL
theorem qN {C:Int->Int->Prop} {f:Int->Int->Int}:dJ K (rI C fun i j=>.int (f i j)) (uI C fun i j=>.int (f i j)):=Q7 fun _ _ _ _=>dE
def Rf:dQ:=fun x y M Q=>match x,y with
 | .str i,.str j=>i.length + j.length<=sizeLine/\Q (.str (i++j)) M
 | _,_=>False
theorem Kl:dJ K (fun x y H Q=>∃ i j,x=.str i/\y=.str j/\i.length + j.length<=sizeLine/\Q (.str (i++j)) H) Rf:=fun x y u w H M Q' rm ru rw h Q c=>by
 cases u with
 | str i=>cases w with
  | str j=>exact ⟨i,j,ru.str,rw.str,h.1,c _ _ M H (aR.refl _ _) rm lL h.2⟩
  | _=>exact h.elim
 | _=>exact h.elim
def B7 (K:PySem.W.Frag):R2:=fun x y H Q=>∃ a b xs ys,x=.ref a/\y=.ref b/\eP K H a xs/\eP K H b ys/\xs.length + ys.length<=sizeLine /\
 (xs=[]->Q (.ref b) H)/\(xs≠[]->ys=[]->Q (.ref a) H)/\(xs≠[]->ys≠[]->∀ p,H p=none->Q (.ref p) (upd H p (.tup (xs++ys))))
def Rl:dQ:=fun x y M Q=>match x,y with
 | .tup us,.tup ws=>us.length + ws.length<=sizeLine/\Q (.tup (us++ws)) M
 | _,_=>False
theorem Kn:dJ K (B7 K) Rl:=fun x y u w H M Q' rm ru rw h Q c=>by
 cases u with
 | tup us=>cases w with
  | tup ws =>
   obtain ⟨h2,h3⟩:=h
   obtain ⟨a,xs,rfl,s1,r1⟩:=ru.tup
   obtain ⟨b,ys,rfl,s2,r2⟩:=rw.tup
   refine ⟨a,b,xs,ys,rfl,rfl,s1,s2,by rw [<- r1.length,<- r2.length];exact h2,fun e=>?_,fun _ e=>?_,fun _ _ p hp=>c.tup rm (r1.append r2) hp h3⟩
   ·subst e
    have e2:us=[]:=List.length_eq_zero_iff.mp r1.length
    subst e2
    exact c _ _ M H (aR.refl _ _) rm rw h3
   ·subst e
    have e2:ws=[]:=List.length_eq_zero_iff.mp r2.length
    subst e2
    exact c _ _ M H (aR.refl _ _) rm ru (by rw [List.append_nil] at h3;exact h3)
  | _=>exact h.elim
 | _=>exact h.elim
def sE (o:Bool):dQ:=fun x y M Q=>match view M x,view M y with
 | .lst us,.lst ws=>us.length + ws.length<=sizeLine/\iH o (us++ws) M Q
 | _,_=>False
def FQ (K:PySem.W.Frag):R2:=fun x y H Q=>∃ l b xs zs,x=.ref l/\y=.ref b/\eC K H l xs/\eC K H b zs/\xs.length + zs.length<=sizeLine/\∀ p,H p=none->Q (.ref p) (upd H p (.lst (xs++zs)))
theorem K0 {o:Bool}:dJ K (FQ K) (sE o):=fun x y u w H M Q' rm ru rw h Q c=>by
 unfold sE at h
 split at h
 ·rename_i us ws e1 e2
  obtain ⟨a,xs,rfl,s1,r1⟩:=eW rm ru e1
  obtain ⟨b,ys,rfl,s2,r2⟩:=eW rm rw e2
  exact ⟨a,b,xs,ys,rfl,rfl,s1,s2,by rw [<- r1.length,<- r2.length];exact h.1,fun p hp=>c.lst rm (r1.append r2) hp h.2⟩
 ·exact h.elim
theorem EF {H:Hp} {M:aF} {us:List U} {vs:List V} {i:Int} {u:U} (r:aJ K H M us vs) (h:dP us i=some u):∃ v,dP vs i=some v/\aM K H M u v:=by
 unfold dP at h ⊢
 rw [<- r.length]
 cases e:uK us.length i with
 | none=>rw [e] at h;cases h
 | some j=>rw [e] at h;exact r.get h
def Cn:dQ:=fun x y M Q=>match view M x,y with
 | .lst us,.int i=>∃ u,dP us i=some u/\Q u M
 | .tup us,.int i=>∃ u,dP us i=some u/\Q u M
 | .str z,.int i=>z.length<=sizeLine/\∃ c,dP z.cps.toList i=some c/\Q (.str ⟨#[c]⟩) M
 | _,_=>False
theorem pO {M:aF} {u:U} {us:List U} (h:view M u=.tup us):u=.tup us:=by
 cases u with
 | ref a=>simp only [view] at h;split at h <;> cases h
 | _=>simpa [view] using h
theorem wX {M:aF} {u:U} {x:Str} (h:view M u=.str x):u=.str x:=by
 cases u with
 | ref a=>simp only [view] at h;split at h <;> cases h
 | _=>simpa [view] using h
theorem Qb:dJ K (RD K) Cn:=fun x y u w H M Q' rm ru rw h Q c=>by
 unfold Cn at h
 split at h
 ·rename_i us i e
  obtain ⟨z,h1,h2⟩:=h
  obtain ⟨a,xs,rfl,s1,r1⟩:=eW rm ru e
  obtain ⟨v,h3,h4⟩:=EF r1 h1
  exact .inl ⟨a,xs,i,v,rfl,rw.int,s1,h3,c _ _ M H (aR.refl _ _) rm h4 h2⟩
 ·rename_i us i e
  obtain ⟨z,h1,h2⟩:=h
  have e':=pO e
  subst e'
  obtain ⟨a,xs,rfl,s1,r1⟩:=ru.tup
  obtain ⟨v,h3,h4⟩:=EF r1 h1
  exact .inr (.inl ⟨a,xs,i,v,rfl,rw.int,s1,h3,c _ _ M H (aR.refl _ _) rm h4 h2⟩)
 ·rename_i z i e
  obtain ⟨h0,d,h1,h2⟩:=h
  have e':=wX e
  subst e'
  exact .inr (.inr ⟨z,i,d,ru.str,rw.int,h0,h1,c _ _ M H (aR.refl _ _) rm lL h2⟩)
 ·exact h.elim
abbrev UO:=SU->aF->(Option Int->aF->Prop)->Prop
def Co (K:PySem.W.Frag) (t:TO) (t':UO):Prop:=∀ (σ:St) (τ:SU) (H:Hp) (M:aF) (Q':Option Int->aF->Prop),eJ K H M σ τ->RelM K H M->t' τ M Q' ->
 ∀ Q:Option Int->Hp->Prop,(∀ o M1 H1,aR H M H1 M1->RelM K H1 M1->Q' o M1->Q o H1)->t σ H Q
def pI:UO:=fun _ M Q=>Q none M
def vU (t:UE):UO:=fun τ M Q=>t τ M fun x M1=>match x with
 | .int i=>Q (some i) M1
 | _=>False
theorem F7:Co K EO pI:=fun σ τ H M Q' rs rm q Q c=>c none M H (aR.refl _ _) rm q
theorem Lz {t:TE} {t':UE} (h:bS K t t'):Co K (LV t) (vU t'):=fun σ τ H M Q' rs rm q Q c=>h σ τ H M _ rs rm q _ fun u v M1 H1 s1 rm1 ru h1=>by
 cases u with
 | int i=>exact ⟨i,ru.int,c _ M1 H1 s1 rm1 h1⟩
 | _=>exact h1.elim
def gE {α:Type} (xs:List α) (lo hi:Option Int):List α:=(xs.drop (HT.bK xs.length 0 lo)).take (HT.bK xs.length xs.length hi - HT.bK xs.length 0 lo)
theorem Ea {H:Hp} {M:aF} {us:List U} {vs:List V} (r:aJ K H M us vs) (lo hi:Option Int):aJ K H M (gE us lo hi) (qV vs lo hi):=by
 unfold gE qV
 rw [r.length]
 exact (r.drop _).take _
def PU (K:PySem.W.Frag):V->Option Int->Option Int->Hp->VK->Prop:=fun x lo hi H Q =>
 (∃ a xs,x=.ref a/\eC K H a xs/\∀ p,H p=none->Q (.ref p) (upd H p (.lst (qV xs lo hi)))) \/
 (∃ a xs,x=.ref a/\eP K H a xs/\¬ (HT.bK xs.length 0 lo=0/\HT.bK xs.length xs.length hi=xs.length)/\∀ p,H p=none->Q (.ref p) (upd H p (.tup (qV xs lo hi)))) \/
 (∃ z:Str,x=.str z/\z.length<=sizeLine/\Q (.str (Txt.slice z lo hi)) H)
def SR (o:Bool) (te:UE) (tl th:UO):UE:=fun τ M Q=>te τ M fun x M1=>tl τ M1 fun l M2=>th τ M2 fun h M3=>match view M3 x with
 | .lst us=>iH o (gE us l h) M3 Q
 | .tup us=>¬ (HT.bK us.length 0 l=0/\HT.bK us.length us.length h=us.length)/\Q (.tup (gE us l h)) M3
 | .str z=>z.length<=sizeLine/\Q (.str (Txt.slice z l h)) M3
 | _=>False
end
section
variable {K:PySem.W.Frag} {t u:TS} {t' u':US} {te:TE} {te':UE}
def cA:US:=fun D τ M=>D.nx τ M
def xH (t u:US):US:=fun D τ M=>t { D with nx:=u D } τ M
def yC:US:=fun D τ M=>D.bk τ M
def BS:US:=fun D τ M=>D.ct τ M
def fM (te:UE):US:=fun D τ M=>te τ M fun _ M1=>D.nx τ M1
def bV (te:UE):US:=fun D τ M=>te τ M D.rt
def BX:US:=fun D _ M=>D.rt .non M
def xE (c:UT) (t u:US):US:=fun D τ M=>c τ M fun b M1=>if b=true then t D τ M1 else u D τ M1
theorem KZ:lM K Mv cA:=fun σ τ H M D' rs rm h D d=>d.nx σ τ H M (aR.refl _ _) rm rs h
theorem Oh (h1:lM K t t') (h2:lM K u u'):lM K (QB t u) (xH t' u'):=fun σ τ H M D' rs rm h D d =>
 h1 σ τ H M _ rs rm h _ ⟨fun σ1 τ1 H1 M1 s rm1 rs1 q=>h2 σ1 τ1 H1 M1 D' rs1 rm1 q D (d.stp s),d.rt,d.bk,d.ct⟩
theorem Kp (h1:bS K te te'):lM K (L6 te) (fM te'):=fun σ τ H M D' rs rm h D d=>h1 σ τ H M _ rs rm h _ fun u v M1 H1 s rm1 ru q=>d.nx σ τ H1 M1 s rm1 (rs.stp s) q
theorem Oq (h1:bS K te te'):lM K (Qg te) (bV te'):=fun σ τ H M D' rs rm h D d=>h1 σ τ H M _ rs rm h _ fun u v M1 H1 s rm1 ru q=>d.rt u v H1 M1 s rm1 ru q
theorem Oz {c:TT} {c':UT} (hc:kK K c c') (h1:lM K t t') (h2:lM K u u'):lM K (QF c t u) (xE c' t' u'):=fun σ τ H M D' rs rm h D d=>hc σ τ H M _ rs rm h _ fun b M1 H1 s rm1 q=>by
 cases b with
 | true=>exact h1 σ τ H1 M1 D' (rs.stp s) rm1 q D (d.stp s)
 | false=>exact h2 σ τ H1 M1 D' (rs.stp s) rm1 q D (d.stp s)
abbrev UG:=U->SU->aF->(SU->aF->Prop)->Prop
abbrev xZ:=List U->SU->aF->(SU->aF->Prop)->Prop
def xN (K:PySem.W.Frag) (g:TG) (g':UG):Prop:=∀ (u:U) (v:V) (σ:St) (τ:SU) (H:Hp) (M:aF) (Q':SU->aF->Prop),aM K H M u v->eJ K H M σ τ->RelM K H M->g' u τ M Q' ->
 ∀ Q:St->Hp->Prop,(∀ σ1 τ1 H1 M1,aR H M H1 M1->RelM K H1 M1->eJ K H1 M1 σ1 τ1->Q' τ1 M1->Q σ1 H1)->g v σ H Q
def yY (K:PySem.W.Frag) (g:pY) (g':xZ):Prop:=∀ (us:List U) (vs:List V) (σ:St) (τ:SU) (H:Hp) (M:aF) (Q':SU->aF->Prop),aJ K H M us vs->eJ K H M σ τ->RelM K H M->g' us τ M Q' ->
 ∀ Q:St->Hp->Prop,(∀ σ1 τ1 H1 M1,aR H M H1 M1->RelM K H1 M1->eJ K H1 M1 σ1 τ1->Q' τ1 M1->Q σ1 H1)->g vs σ H Q
def hName (i:Nat):UG:=fun u τ M Q=>Q (τ.set i (some u)) M
theorem uE (i:Nat):xN K (sT i) (hName i):=fun u v σ τ H M Q' ru rs rm h Q c=>c _ _ H M (aR.refl _ _) rm (rs.set ru) h
def kM:xZ:=fun us τ M Q=>match us with
 | []=>Q τ M
 | _=>False
def iD (g:UG) (r:xZ):xZ:=fun us τ M Q=>match us with
 | u :: us=>g u τ M fun τ1 M1=>r us τ1 M1 Q
 | _=>False
theorem J8:yY K B6 kM:=fun us vs σ τ H M Q' ru rs rm h Q c=>by
 cases us with
 | nil=>exact ⟨ru.inv_nil,c σ τ H M (aR.refl _ _) rm rs h⟩
 | cons _ _=>exact h.elim
theorem Jl {g:TG} {g':UG} {r:pY} {r':xZ} (h1:xN K g g') (h2:yY K r r'):yY K (xU g r) (iD g' r'):=fun us vs σ τ H M Q' ru rs rm h Q c=>by
 cases us with
 | nil=>exact h.elim
 | cons u us =>
  obtain ⟨v,vs',rfl,a,b⟩:=ru.inv_cons
  exact ⟨v,vs',rfl,h1 u v σ τ H M _ a rs rm h _ fun σ1 τ1 H1 M1 s rm1 rs1 q=>h2 us vs' σ1 τ1 H1 M1 Q' (b.stp s) rs1 rm1 q Q fun σ2 τ2 H2 M2 s2=>c σ2 τ2 H2 M2 (s.trans s2)⟩
def i5 (n:Nat) (r:xZ):UG:=fun u τ M Q=>match u with
 | .tup us=>us.length=n/\r us τ M Q
 | _=>False
theorem LF {n:Nat} {r:pY} {r':xZ} (h2:yY K r r'):xN K (Ci K n r) (i5 n r'):=fun u v σ τ H M Q' ru rs rm h Q c=>by
 cases u with
 | tup us =>
  obtain ⟨a,vs,rfl,s1,r1⟩:=ru.tup
  exact ⟨a,vs,rfl,s1,by rw [<- r1.length];exact h.1,h2 us vs σ τ H M Q' r1 rs rm h.2 Q c⟩
 | _=>exact h.elim
def bC (te:UE) (g:UG):US:=fun D τ M=>te τ M fun x M1=>g x τ M1 D.nx
theorem ES {g:TG} {g':UG} (h1:bS K te te') (h2:xN K g g'):lM K (Fn te g) (bC te' g'):=fun σ τ H M D' rs rm h D d =>
 h1 σ τ H M _ rs rm h _ fun u v M1 H1 s rm1 ru q=>h2 u v σ τ H1 M1 _ ru (rs.stp s) rm1 q _ fun σ1 τ1 H2 M2 s2 rm2 rs2 q2=>d.nx σ1 τ1 H2 M2 (s.trans s2) rm2 rs2 q2
structure Src where
 own:Option Addr
 xs:List U
def Src.ok (S:Src) (M:aF):Prop:=∀ a,S.own=some a->M a=some (.lst S.xs)
structure Walk (K:PySem.W.Frag) (J:It) (S:Src) (H:Hp) (M:aF):Prop where
 step:∀ H1 M1,aR H M H1 M1->RelM K H1 M1->S.ok M1->∀ (i:Nat) u,S.xs[i]?=some u->J.go i H1/\∀ x H2,J.yld i H1 x H2->aR H1 M1 H2 M1/\RelM K H2 M1/\aM K H2 M1 u x
 stop:∀ H1 M1,aR H M H1 M1->RelM K H1 M1->S.ok M1->J.stop S.xs.length H1
abbrev UI:=SU->aF->(Src->aF->Prop)->Prop
def pW (K:PySem.W.Frag) (t:TI) (t':UI):Prop:=∀ (σ:St) (τ:SU) (H:Hp) (M:aF) (R':Src->aF->Prop),eJ K H M σ τ->RelM K H M->t' τ M R' ->
 ∀ R:It->Hp->Prop,(∀ J S M1 H1,aR H M H1 M1->RelM K H1 M1->Walk K J S H1 M1->R' S M1->R J H1)->t σ H R
def Cq (wi:UI) (g:UG) (tb:US):US:=fun D τ M=>wi τ M fun S M1=>∃ P:Nat->SU->aF->Prop,P 0 τ M1/\(∀ i τ M,P i τ M->S.ok M) /\
 (∀ i x τ M,S.xs[i]?=some x->P i τ M->g x τ M fun τ2 M2=>tb { D with nx:=P (i + 1),ct:=P (i + 1),bk:=D.nx } τ2 M2)/\∀ τ M,P S.xs.length τ M->D.nx τ M
theorem Nl {wi:TI} {wi':UI} {g:TG} {g':UG} (hi:pW K wi wi') (hg:xN K g g') (h1:lM K t t'):lM K (O9 wi g t) (Cq wi' g' t'):=fun σ τ H M D' rs rm h D d=>by
 refine hi σ τ H M _ rs rm h _ fun J S M0 H0 s0 rm0 w h=>?_
 obtain ⟨P,p0,hok,turn,fin⟩:=h
 refine ⟨fun i m σ1 H1=>∃ τ1 M1,aR H0 M0 H1 M1/\RelM K H1 M1/\eJ K H1 M1 σ1 τ1/\P i τ1 M1/\i<=S.xs.length/\m=S.xs.length - i,⟨_,τ,M0,aR.refl _ _,rm0,rs.stp s0,p0,Nat.zero_le _,rfl⟩,?_⟩
 rintro i m σ1 H1 ⟨τ1,M1,s1,rm1,rs1,p1,hle,rfl⟩
 have ok1:=hok i τ1 M1 p1
 by_cases hlt:i < S.xs.length
 ·obtain ⟨go,yl⟩:=w.step H1 M1 s1 rm1 ok1 i S.xs[i] (by simp [hlt])
  refine .inr ⟨go,fun σ3 H3=>∃ τ3 M3,aR H0 M0 H3 M3/\RelM K H3 M3/\eJ K H3 M3 σ3 τ3/\P (i + 1) τ3 M3,?_,fun x H2 y=>?_⟩
  ·rintro σ3 H3 ⟨τ3,M3,s3,rm3,rs3,p3⟩
   exact ⟨S.xs.length - (i + 1),by omega,τ3,M3,s3,rm3,rs3,p3,hlt,rfl⟩
  ·obtain ⟨s2,rm2,ru⟩:=yl x H2 y
   refine hg _ x σ1 τ1 H2 M1 _ ru (rs1.stp s2) rm2 (turn i S.xs[i] τ1 M1 (by simp [hlt]) p1) _ fun σ3 τ3 H3 M3 s3 rm3 rs3 q3=>?_
   have d3:=d.stp (((s0.trans s1).trans s2).trans s3)
   exact h1 σ3 τ3 H3 M3 _ rs3 rm3 q3 _ ⟨fun σ4 τ4 H4 M4 s4 rm4 rs4 q4=>⟨τ4,M4,((s1.trans s2).trans s3).trans s4,rm4,rs4,q4⟩,d3.rt,d3.nx,fun σ4 τ4 H4 M4 s4 rm4 rs4 q4=>⟨τ4,M4,((s1.trans s2).trans s3).trans s4,rm4,rs4,q4⟩⟩
 ·have e:i=S.xs.length:=by omega
  subst e
  exact .inl ⟨w.stop H1 M1 s1 rm1 ok1,d.nx σ1 τ1 H1 M1 (s0.trans s1) rm1 rs1 (fin τ1 M1 p1)⟩
end
end U2
namespace U2
open PySem L2
section
variable {K:PySem.W.Frag}
theorem Jp {a:Addr} {us:List U} {vs:List V} {H:Hp} {M:aF} (m:(M a=none/\Rd H a (.lst vs))\/KL K a vs) (r:aJ K H M us vs):Walk K (L4 K a) ⟨none,us⟩ H M:=by
 have sq:∀ H1 M1,aR H M H1 M1->eC K H1 a vs:=fun H1 M1 s=>by
  rcases m with ⟨m,h⟩ | k
  ·exact .inl (Rd.stp s m h).2
  ·exact .inr k
 refine ⟨fun H1 M1 s rm _ i u e=>?_,fun H1 M1 s rm _=>⟨vs,sq H1 M1 s,by rw [r.length];exact Nat.le_refl _⟩⟩
 obtain ⟨v,e2,ru⟩:=r.get e
 refine ⟨⟨vs,v,sq H1 M1 s,e2⟩,fun x H2 y=>?_⟩
 obtain ⟨rfl,y⟩:=y
 have:=y vs (sq _ M1 s)
 rw [e2] at this;cases this
 exact ⟨aR.refl _ _,rm,ru.stp s⟩
theorem JV {a:Addr} {us:List U} {vs:List V} {H:Hp} {M:aF} (m:M a=none/\H a=some (.tup vs)) (r:aJ K H M us vs):Walk K (OJ K a) ⟨none,us⟩ H M:=by
 have sq:∀ H1 M1,aR H M H1 M1->eP K H1 a vs:=fun H1 M1 s=>by
  exact .inl (.inl (s.to m.2 m.1).1)
 refine ⟨fun H1 M1 s rm _ i u e=>?_,fun H1 M1 s rm _=>⟨vs,sq H1 M1 s,by rw [r.length];exact Nat.le_refl _⟩⟩
 obtain ⟨v,e2,ru⟩:=r.get e
 refine ⟨⟨vs,v,sq H1 M1 s,e2⟩,fun x H2 y=>?_⟩
 obtain ⟨rfl,y⟩:=y
 have:=y vs (sq _ M1 s)
 rw [e2] at this;cases this
 exact ⟨aR.refl _ _,rm,ru.stp s⟩
theorem Ko {a:Addr} {us:List U} {H:Hp} {M:aF}:Walk K (L4 K a) ⟨some a,us⟩ H M:=by
 refine ⟨fun H1 M1 s rm ok i u e=>?_,fun H1 M1 s rm ok=>?_⟩
 ·obtain ⟨vs,h1,r⟩:=rm a _ (ok a rfl)
  obtain ⟨v,e2,ru⟩:=r.get e
  refine ⟨⟨vs,v,.inl (.inl h1),e2⟩,fun x H2 y=>?_⟩
  obtain ⟨rfl,y⟩:=y
  have:=y vs (.inl (.inl h1))
  rw [e2] at this;cases this
  exact ⟨aR.refl _ _,rm,ru⟩
 ·obtain ⟨vs,h1,r⟩:=rm a _ (ok a rfl)
  exact ⟨vs,.inl (.inl h1),by rw [r.length];exact Nat.le_refl _⟩
def O6 (z:Str):It:=⟨fun i _=>i < z.cps.size,fun i H x H'=>H'=H/\∃ c,z.cps[i]?=some c/\x=.str ⟨#[c]⟩,fun i _=>i=z.cps.size⟩
def chars (z:Str):List U:=z.cps.toList.map fun c=>.str ⟨#[c]⟩
theorem JU {z:Str} {H:Hp} {M:aF}:Walk K (O6 z) ⟨none,chars z⟩ H M:=by
 refine ⟨fun H1 M1 s rm _ i u e=>?_,fun H1 M1 s rm _=>?_⟩
 ·have hi:i < z.cps.size:=by
   have:=(List.getElem?_eq_some_iff.mp e).1
   simpa [chars] using this
  refine ⟨hi,fun x H2 y=>?_⟩
  obtain ⟨rfl,c,h1,rfl⟩:=y
  have:u=.str ⟨#[c]⟩:=by
   simp only [chars,List.getElem?_map,Array.getElem?_toList,h1,Option.map_some] at e
   exact (Option.some.inj e).symm
  subst this
  exact ⟨aR.refl _ _,rm,lL⟩
 ·show (chars z).length=z.cps.size
  simp [chars]
def O7 (K:PySem.W.Frag) (tl:TE):TI:=fun σ H R=>tl σ H fun x H1 =>
 (∃ a,x=.ref a/\(∃ xs,eC K H1 a xs)/\R (L4 K a) H1)\/(∃ a,x=.ref a/\(∃ xs,eP K H1 a xs)/\R (OJ K a) H1)\/(∃ z,x=.str z/\R (O6 z) H1)
def tF (te:UE):UI:=fun τ M R=>te τ M fun u M1=>match u with
 | .lst us=>R ⟨none,us⟩ M1
 | .tup us=>R ⟨none,us⟩ M1
 | .str z=>R ⟨none,chars z⟩ M1
 | .ref a=>match M1 a with
  | some (.lst us)=>R ⟨some a,us⟩ M1
  | _=>False
 | _=>False
theorem J2 {te:TE} {te':UE} (h:bS K te te'):pW K (O7 K te) (tF te'):=fun σ τ H M R' rs rm q R c=>h σ τ H M _ rs rm q _ fun u v M1 H1 s1 rm1 ru h1=>by
 cases u with
 | lst us =>
  simp only [aM] at ru
  obtain ⟨a,vs,rfl,m,r⟩:=ru
  refine .inl ⟨a,rfl,⟨vs,?_⟩,c _ _ M1 H1 s1 rm1 (Jp m r) h1⟩
  rcases m with ⟨_,m⟩ | k
  ·exact .inl m
  ·exact .inr k
 | tup us =>
  simp only [aM] at ru
  obtain ⟨a,vs,rfl,m,r⟩:=ru
  refine .inr (.inl ⟨a,rfl,⟨vs,?_⟩,c _ _ M1 H1 s1 rm1 (JV m r) h1⟩)
  exact .inl (.inl m.2)
 | str z=>exact .inr (.inr ⟨z,ru.str,c _ _ M1 H1 s1 rm1 JU h1⟩)
 | ref a =>
  dsimp only at h1
  split at h1
  ·rename_i us e
   obtain ⟨vs,h2,r⟩:=rm1 a _ e
   exact .inl ⟨a,ru.ref,⟨vs,.inl (.inl h2)⟩,c _ _ M1 H1 s1 rm1 Ko h1⟩
  ·exact h1.elim
 | _=>exact h1.elim
def eF (lo:Int) (n:Nat):List U:=(List.range n).map fun (k:Nat)=>U.int (lo + (k:Int))
theorem E8 {lo:Int} {n:Nat} {H:Hp} {M:aF}:Walk K (Mu lo n) ⟨none,eF lo n⟩ H M:=by
 refine ⟨fun H1 M1 s rm _ i u e=>?_,fun H1 M1 s rm _=>?_⟩
 ·have hi:i < n:=by
   have:=(List.getElem?_eq_some_iff.mp e).1
   simpa [eF] using this
  refine ⟨hi,fun x H2 y=>?_⟩
  obtain ⟨rfl,rfl⟩:=y
  have:u=.int (lo + i):=by
   simp only [eF,List.getElem?_map,List.getElem?_range hi,Option.map_some] at e
   exact (Option.some.inj e).symm
  subst this
  exact ⟨aR.refl _ _,rm,dE⟩
 ·show n<=(eF lo n).length
  simp [eF]
def vY (ta:UA):UI:=fun τ M R=>ta τ M fun us M1=>match us with
 | [.int j]=>-(2 ^ 62)<=j/\j < 2 ^ 62/\R ⟨none,eF 0 j.toNat⟩ M1
 | _=>False
def BO (ta:UA):UI:=fun τ M R=>ta τ M fun us M1=>match us with
 | [.int i,.int j]=>(-(2 ^ 62)<=i/\i < 2 ^ 62/\-(2 ^ 62)<=j/\j < 2 ^ 62)/\R ⟨none,eF i (j - i).toNat⟩ M1
 | _=>False
theorem Kg {ta:TA} {ta':UA} (h:jK K ta ta'):pW K (Mx ta) (vY ta'):=fun σ τ H M R' rs rm q R c=>h σ τ H M _ rs rm q _ fun us vs M1 H1 s1 rm1 ru h1=>by
 split at h1
 ·rename_i j
  obtain ⟨v,vs',rfl,a,b⟩:=ru.inv_cons
  cases b.inv_nil
  cases a.int
  exact ⟨j,rfl,h1.1,h1.2.1,c _ _ M1 H1 s1 rm1 E8 h1.2.2⟩
 ·exact h1.elim
abbrev bG:=List U->aF->UK->Prop
def cL (K:PySem.W.Frag) (sp:bG):Sp:=fun vs H Q _=>∃ us M Q',RelM K H M/\aJ K H M us vs/\sp us M Q'/\dH K H M Q' Q
def qB (sp:bG) (dus:List U) (t:UA):UE:=fun τ M Q=>t τ M fun us M1=>sp (us++dus) M1 Q
theorem Kk {sp:bG} {dus:List U} {dvs:List V} {E:XK} {t:TA} {t':UA} (hd:∀ H M,aJ K H M dus dvs) (h:jK K t t'):bS K (GJ (cL K sp) dvs E t) (qB sp dus t'):=fun σ τ H M Q' rs rm q Q c =>
 h σ τ H M _ rs rm q _ fun us vs M1 H1 s1 rm1 ru h1=>⟨us++dus,M1,Q',rm1,ru.append (hd _ _),h1,dH.stp c s1⟩
def Sub (M' M1:aF):Prop:=∀ b mo,M' b=some mo->M1 b=some mo
theorem Sub.refl (M:aF):Sub M M:=fun _ _ h=>h
theorem Sub.mup {M M1:aF} {p:Addr} {o:MO} (h:Sub M M1) (hp:M p=none):Sub M (mup M1 p o):=fun b mo e=>by
 have:b≠p:=fun z=>by subst z;rw [hp] at e;cases e
 rw [aG this];exact h b mo e
theorem Sub.less {M M1:aF} (h:Sub M M1) {H:Hp}:aR H M1 H M:=aR.less fun b e=>by
 cases q:M b with
 | none=>rfl
 | some mo=>rw [h b mo q] at e;cases e
theorem RelM.sub {H:Hp} {M M1:aF} (rm:RelM K H M1) (h:Sub M M1):RelM K H M:=fun a mo e=>(rm a mo (h a mo e)).stp (fun b q z=>h b _ z) (h.less) rfl
def Out (M1 M':aF) (u u':U):Prop:=u'=u\/∃ a us,u=.ref a/\M1 a=some (.lst us)/\M' a=none/\u'=.lst us
def jF (Q:UK):UK:=fun u M1=>∃ u' M',Sub M' M1/\Out M1 M' u u'/\Q u' M'
theorem jF.ok {H H1:Hp} {M M1:aF} {Q':UK} {Q:VK} {u:U} {v:V} (c:dH K H M Q' Q) (s:aR H M H1 M1) (rm:RelM K H1 M1) (ru:aM K H1 M1 u v) (h:jF Q' u M1):Q v H1:=by
 obtain ⟨u',M',sb,o,q⟩:=h
 have s':aR H1 M1 H1 M':=sb.less
 refine c u' v M' H1 (s.trans s') (rm.sub sb) ?_ q
 rcases o with rfl | ⟨a,us,rfl,h1,h2,rfl⟩
 ·exact ru.stp s'
 ·obtain ⟨vs,h3,h4⟩:=rm a _ h1
  cases ru.ref
  exact sY h2 h3 (h4.stp s')
def eS (N:List Str) (us:List U):SU:=us.map some++List.replicate (N.length - us.length) none
def HK (M:aF) (x:U):Prop:=∃ us,view M x=.lst us
def Bd (r:U->List U->aF->UK->Prop) (to:UE) (t:UA):UE:=fun τ M Q=>to τ M fun x M1=>HK M1 x/\t τ M1 fun xs M2=>r x xs M2 Q
def Fu (r:U->List U->aF->UK->Prop) (to:UE):UE:=fun τ M Q=>to τ M fun x M1=>HK M1 x/\r x [] M1 Q
theorem HK.ty {H:Hp} {M:aF} {u:U} {v:V} (rm:RelM K H M) (ru:aM K H M u v) (h:HK M u):PX K "list" v H:=by
 obtain ⟨us,h⟩:=h
 obtain ⟨a,vs,rfl,s,_⟩:=eW rm ru h
 exact .inl ⟨rfl,vs,s⟩
theorem CW {r:V->List V->Hp->VK->Prop} {r':U->List U->aF->UK->Prop} {to:TE} {to':UE} {t:TA} {t':UA} (hr:u2 K r r') (ho:bS K to to') (h:jK K t t') :
  bS K (RJ K "list" r to t) (Bd r' to' t'):=fun σ τ H M Q' rs rm q Q c =>
 ho σ τ H M _ rs rm q _ fun u v M1 H1 s1 rm1 ru h1=>⟨h1.1.ty rm1 ru,h σ τ H1 M1 _ (rs.stp s1) rm1 h1.2 _ fun us vs M2 H2 s2 rm2 rus h2=>hr v vs u us H2 M2 Q' rm2 (ru.stp s2) rus h2 Q (dH.stp c (s1.trans s2))⟩
theorem dH.write {H:Hp} {M:aF} {Q':UK} {Q:VK} {a:Addr} {us us':List U} {xs':List V} {r:U} {v:V} (c:dH K H M Q' Q) (rm:RelM K H M) (e:M a=some (.lst us)) (r1:aJ K H M us' xs') (r2:aM K H M r v) (q:Q' r (mup M a (.lst us'))):Q v (upd H a (.lst xs')):=by
 have st:aR H M (upd H a (.lst xs')) (mup M a (.lst us')):=aR.write e
 exact c _ _ _ _ st (rm.put st ⟨xs',cE,r1.stp st⟩) (r2.stp st) q
def nA:U->List U->aF->UK->Prop:=fun x ws M Q=>match x,ws with
 | .ref a,[w]=>match M a with
  | some (.lst us)=>us.length < sizeLine/\Q .non (mup M a (.lst (us++[w])))
  | _=>False
 | _,_=>False
theorem GF:u2 K Et nA:=fun x xs u us H M Q' rm ru rus h Q c=>by
 unfold nA at h
 split at h
 ·rename_i a w
  split at h
  ·rename_i ws e
   obtain ⟨vs,h1,r⟩:=rm a _ e
   obtain ⟨v,vs',rfl,a1,b⟩:=rus.inv_cons
   cases b.inv_nil
   cases ru.ref
   exact ⟨a,vs,v,rfl,rfl,h1,by rw [<- r.length];exact h.1,c.write rm e (r.append (.cons a1 .nil)) lN h.2⟩
  ·exact h.elim
 ·exact h.elim
def GY:U->List U->aF->UK->Prop:=fun x ws M Q=>match x,ws with
 | .ref a,[]=>match M a with
  | some (.lst us)=>match us.getLast? with
   | some w=>Q w (mup M a (.lst us.dropLast))
   | none=>False
  | _=>False
 | _,_=>False
def De (K:PySem.W.Frag):V->List V->Hp->VK->Prop:=fun x vs H Q=>∃ l b xs zs,x=.ref l/\vs=[.ref b]/\H l=some (.lst xs)/\eC K H b zs/\xs.length + zs.length<=sizeLine/\Q .non (upd H l (.lst (xs++zs)))
def nQ:U->List U->aF->UK->Prop:=fun x ws M Q=>match x,ws with
 | .ref a,[w]=>match M a,view M w with
  | some (.lst us),.lst zs=>us.length + zs.length<=sizeLine/\Q .non (mup M a (.lst (us++zs)))
  | _,_=>False
 | _,_=>False
theorem Fb:u2 K (De K) nQ:=fun x xs u us H M Q' rm ru rus h Q c=>by
 unfold nQ at h
 split at h
 ·rename_i a w
  split at h
  ·rename_i ws zs e e2
   obtain ⟨vs,h1,r⟩:=rm a _ e
   obtain ⟨v,vs',rfl,a1,b⟩:=rus.inv_cons
   cases b.inv_nil
   cases ru.ref
   obtain ⟨b,zvs,rfl,s2,r2⟩:=eW rm a1 e2
   exact ⟨a,b,vs,zvs,rfl,rfl,h1,s2,by rw [<- r.length,<- r2.length];exact h.1,c.write rm e (r.append r2) lN h.2⟩
  ·exact h.elim
 ·exact h.elim
def zM:U->List U->aF->UK->Prop:=fun x ws M Q=>match x,ws with
 | .ref a,[]=>match M a with
  | some (.lst us)=>Q .non (mup M a (.lst []))
  | _=>False
 | _,_=>False
def w6:List U->aF->UK->Prop:=fun us M Q=>match us with
 | [x]=>match view M x with
  | .lst ws=>Q (.int ws.length) M
  | .tup ws=>Q (.int ws.length) M
  | .str z=>z.length<=sizeLine/\Q (.int z.length) M
  | _=>False
 | _=>False
theorem NS:vQ K (fun xs H Q=>∃ x n,xs=[x]/\P5 K x H n/\Q (.int n) H) w6:=fun xs us H M Q' rm rus h Q c=>by
 unfold w6 at h
 split at h
 ·rename_i x
  obtain ⟨v,vs',rfl,a1,b⟩:=rus.inv_cons
  cases b.inv_nil
  split at h
  ·rename_i ws e
   obtain ⟨b,zvs,rfl,s2,r2⟩:=eW rm a1 e
   exact ⟨_,zvs.length,rfl,.inl ⟨zvs,s2,rfl⟩,c.here rm dE (by rw [<- r2.length];exact h)⟩
  ·rename_i ws e
   have e':=pO e
   subst e'
   obtain ⟨b,zvs,rfl,s2,r2⟩:=a1.tup
   exact ⟨_,zvs.length,rfl,.inr ⟨zvs,s2,rfl⟩,c.here rm dE (by rw [<- r2.length];exact h)⟩
  ·rename_i z e
   have e':=wX e
   subst e'
   cases a1.str
   exact ⟨_,z.length,rfl,⟨h.1,rfl⟩,c.here rm dE h.2⟩
  ·exact h.elim
 ·exact h.elim
def BY (C:Int->Prop) (g:Int->U):List U->aF->UK->Prop:=fun us M Q=>match us with
 | [.int i]=>C i/\Q (g i) M
 | _=>False
def sV (g:Int->Int->U):List U->aF->UK->Prop:=fun us M Q=>match us with
 | [.int i,.int j]=>Q (g i j) M
 | _=>False
theorem aJ.one {H:Hp} {M:aF} {u:U} {vs:List V} (h:aJ K H M [u] vs):∃ v,vs=[v]/\aM K H M u v:=by
 obtain ⟨v,vs',rfl,a1,b⟩:=h.inv_cons
 cases b.inv_nil
 exact ⟨v,rfl,a1⟩
theorem aJ.two {H:Hp} {M:aF} {u w:U} {vs:List V} (h:aJ K H M [u,w] vs):∃ v z,vs=[v,z]/\aM K H M u v/\aM K H M w z:=by
 obtain ⟨v,vs',rfl,a1,b⟩:=h.inv_cons
 obtain ⟨z,rfl,b1⟩:=b.one
 exact ⟨v,z,rfl,a1,b1⟩
theorem Kj:vQ K (fun xs H Q=>∃ i j,xs=[.int i,.int j]/\Q (.int (if j < i then j else i)) H) (sV fun i j=>.int (if j < i then j else i)):=fun xs us H M Q' rm rus h Q c=>by
 unfold sV at h
 split at h
 ·rename_i i j
  obtain ⟨v,z,rfl,a,b⟩:=rus.two
  cases a.int
  cases b.int
  exact ⟨i,j,rfl,c.here rm dE h⟩
 ·exact h.elim
def sP (o:Bool):List U->aF->UK->Prop:=fun us M Q=>match us with
 | [x]=>match view M x with
  | .lst ws=>iH o ws M Q
  | .tup ws=>iH o ws M Q
  | _=>False
 | _=>False
def pU:List U->aF->UK->Prop:=fun us M Q=>match us with
 | [x]=>match view M x with
  | .lst ws=>Q (.tup ws) M
  | .tup ws=>Q (.tup ws) M
  | _=>False
 | _=>False
theorem Jx {o:Bool}:vQ K (fun xs H Q=>∃ p ys,xs=[.ref p]/\(eC K H p ys\/eP K H p ys)/\∀ l,H l=none->Q (.ref l) (upd H l (.lst ys))) (sP o):=fun xs us H M Q' rm rus h Q c=>by
 unfold sP at h
 split at h
 ·rename_i x
  obtain ⟨v,rfl,a1⟩:=rus.one
  split at h
  ·rename_i ws e
   obtain ⟨b,zvs,rfl,s2,r2⟩:=eW rm a1 e
   exact ⟨b,zvs,rfl,.inl s2,fun l hl=>c.lst rm r2 hl h⟩
  ·rename_i ws e
   have e':=pO e
   subst e'
   obtain ⟨b,zvs,rfl,s2,r2⟩:=a1.tup
   exact ⟨b,zvs,rfl,.inr s2,fun l hl=>c.lst rm r2 hl h⟩
  ·exact h.elim
 ·exact h.elim
theorem HL:vQ K (fun xs H Q=>∃ p ys,xs=[.ref p]/\((eC K H p ys/\∀ l,H l=none->Q (.ref l) (upd H l (.tup ys)))\/(eP K H p ys/\Q (.ref p) H))) pU:=fun xs us H M Q' rm rus h Q c=>by
 unfold pU at h
 split at h
 ·rename_i x
  obtain ⟨v,rfl,a1⟩:=rus.one
  split at h
  ·rename_i ws e
   obtain ⟨b,zvs,rfl,s2,r2⟩:=eW rm a1 e
   exact ⟨b,zvs,rfl,.inl ⟨s2,fun l hl=>c.tup rm r2 hl h⟩⟩
  ·rename_i ws e
   have e':=pO e
   subst e'
   have a2:=a1
   obtain ⟨b,zvs,rfl,s2,r2⟩:=a1.tup
   exact ⟨b,zvs,rfl,.inr ⟨s2,c.here rm a2 h⟩⟩
  ·exact h.elim
 ·exact h.elim
def DC (M:aF) (x:U):Option String:=match x with
 | .non=>some "NoneType"
 | .bl _=>some "bool"
 | .int _=>some "int"
 | .str _=>some "str"
 | .tup _=>some "tuple"
 | .lst _=>some "list"
 | .ref a=>match M a with
  | some (.lst _)=>some "list"
  | some (.dK _)=>some "dict"
  | some (.dT _)=>some "dict"
  | _=>none
 | .dic _ _ _=>some "dict"
 | .ty _=>none
def Il:U->U->Option Bool
 | .non,.non=>some true
 | .non,.int _=>some false | .int _,.non=>some false | .non,.bl _=>some false | .bl _,.non=>some false | .non,.str _=>some false | .str _,.non=>some false
 | .int i,.int j=>some (decide (i=j))
 | .bl i,.bl j=>some (decide (i=j))
 | .str i,.str j=>some (decide (i=j))
 | .int _,.str _=>some false | .str _,.int _=>some false | .bl _,.str _=>some false | .str _,.bl _=>some false
 | _,_=>none
def Fm:dQ:=fun x y M Q=>match Il x y with
 | some b=>Q (.bl b) M
 | none=>False
def Gv:dQ:=fun x y M Q=>match Il x y with
 | some b=>Q (.bl (!b)) M
 | none=>False
theorem EM {H:Hp} {M:aF} {x y:V} {u w:U} {b:Bool} (ru:aM K H M u x) (rw:aM K H M w y) (h:Il u w=some b):Gy x y=true/\decide (x=y)=b:=by
 cases u <;> cases w <;> simp only [Il,Option.some.injEq,reduceCtorEq] at h <;> subst h <;>
  (first
   | (cases ru.non) | (cases ru.bl) | (cases ru.int) | (cases ru.str)) <;>
  (first
   | (cases rw.non) | (cases rw.bl) | (cases rw.int) | (cases rw.str)) <;> simp [Gy]
def iB:U->Bool
 | .non=>true
 | _=>false
def xF:dQ:=fun x y M Q=>match y with
 | .non=>Q (.bl (iB x)) M
 | _=>False
def tD:dQ:=fun x y M Q=>match y with
 | .non=>Q (.bl (!iB x)) M
 | _=>False
theorem Ef {H:Hp} {M:aF} {x:V} {u:U} (ru:aM K H M u x):decide (x=.non)=iB u:=by
 cases u with
 | non=>cases ru.non;simp [iB]
 | bl b=>cases ru.bl;simp [iB]
 | int b=>cases ru.int;simp [iB]
 | str b=>cases ru.str;simp [iB]
 | ty b=>cases ru.ty;simp [iB]
 | ref b=>cases ru.ref;simp [iB]
 | tup b=>obtain ⟨a,vs,rfl,_⟩:=ru.tup;simp [iB]
 | lst b=>obtain ⟨a,vs,rfl,_⟩:=ru.lst;simp [iB]
 | dic ks tk us=>simp only [aM] at ru;obtain ⟨a,vs,rfl,_⟩:=ru;simp [iB]
theorem NH:dJ K (fun x y H Q=>y=.non/\Q (.bl (decide (x=.non))) H) xF:=fun x y u w H M Q' rm ru rw h Q c=>by
 unfold xF at h
 split at h
 ·exact ⟨rw.non,c.here rm (by rw [Ef ru];exact fL) h⟩
 ·exact h.elim
theorem Kz:dJ K (fun x y H Q=>y=.non/\Q (.bl (!decide (x=.non))) H) tD:=fun x y u w H M Q' rm ru rw h Q c=>by
 unfold tD at h
 split at h
 ·exact ⟨rw.non,c.here rm (by rw [Ef ru];exact fL) h⟩
 ·exact h.elim
end
end U2
namespace U2
open PySem L2
def fG {α:Type} (k:Nat) (ix:List Nat) (σ:List (Option α)):List (Option α):=List.replicate k none++ix.map fun i=>(σ[i]?).getD none
def BV (k:Nat) (ix:List Nat) (wi:TI) (g:TG) (tc:TT) (te:TE):TE:=fun σ H Q=>wi σ H fun J H1=>∀ D,H1 D=none->∃ W:Nat->Nat->Hp->Prop,(∃ m,W 0 m (upd H1 D (.lst [])))/\∀ i m H,W i m H ->
 (J.stop i H/\Q (.ref D) H)\/(J.go i H/\∀ x H',J.yld i H x H'->g x (fG k ix σ) H' fun σ2 H2=>tc σ2 H2 fun ok H3 =>
  if ok=true then te σ2 H3 fun y H4=>∃ ys,H4 D=some (.lst ys)/\ys.length < sizeLine/\∃ m',m' < m/\W (i + 1) m' (upd H4 D (.lst (ys++[y]))) else ∃ m',m' < m/\W (i + 1) m' H3)
def PB (o:Bool) (Q:UK) (D:Addr) (ys:List U) (M:aF):Prop:=match o with
 | true=>Q (.ref D) M
 | false=>∃ M',Sub M' M/\M' D=none/\Q (.lst ys) M'
def tM (o:Bool) (k:Nat) (ix:List Nat) (wi:UI) (g:UG) (tc:UT) (te:UE):UE:=fun τ M Q=>wi τ M fun S M1=>S.xs.length<=sizeLine/\∀ D,M1 D=none->∃ P:Nat->List U->aF->Prop,P 0 [] (mup M1 D (.lst [])) /\
 (∀ i ys M,P i ys M->S.ok M/\M D=some (.lst ys)/\ys.length<=i) /\
 (∀ i x ys M,S.xs[i]?=some x->P i ys M->g x (fG k ix τ) M fun τ2 M2=>tc τ2 M2 fun ok M3=>if ok=true then te τ2 M3 fun y M4=>M4 D=some (.lst ys)/\P (i + 1) (ys++[y]) (mup M4 D (.lst (ys++[y]))) else P (i + 1) ys M3) /\
 ∀ ys M,P S.xs.length ys M->PB o Q D ys M
section
variable {K:PySem.W.Frag}
theorem JZ {H:Hp} {M:aF} {σ:St} {τ:SU} (k:Nat) (ix:List Nat) (r:eJ K H M σ τ):eJ K H M (fG k ix σ) (fG k ix τ):=by
 refine ⟨by simp [fG],fun i u e=>?_⟩
 unfold fG at e ⊢
 by_cases hi:i < k
 ·rw [List.getElem?_append_left (by simpa using hi),List.getElem?_replicate] at e
  split at e <;> cases e
 ·rw [List.getElem?_append_right (by simpa using Nat.le_of_not_lt hi),List.getElem?_map] at e ⊢
  simp only [List.length_replicate] at e ⊢
  cases q:ix[i - k]? with
  | none=>rw [q] at e;cases e
  | some j =>
   rw [q] at e
   simp only [Option.map_some,Option.some.injEq] at e ⊢
   cases z:τ[j]? with
   | none=>rw [z] at e;cases e
   | some w =>
    rw [z] at e
    simp only [Option.getD_some] at e
    subst e
    obtain ⟨v,h1,h2⟩:=r.2 j u z
    exact ⟨v,by rw [h1];rfl,h2⟩
theorem B4 {o:Bool} {k:Nat} {ix:List Nat} {wi:TI} {wi':UI} {g:TG} {g':UG} {tc:TT} {tc':UT} {te:TE} {te':UE} (hi:pW K wi wi') (hg:xN K g g') (hc:kK K tc tc') (he:bS K te te') :
  bS K (BV k ix wi g tc te) (tM o k ix wi' g' tc' te'):=fun σ τ H M Q' rs rm h Q c=>by
 refine hi σ τ H M _ rs rm h _ fun J S M1 H1 s1 rm1 w h=>?_
 obtain ⟨hz,h⟩:=h
 intro D hD
 obtain ⟨P,p0,inv,turn,fin⟩:=h D (rm1.no hD)
 have sD:aR H1 M1 (upd H1 D (.lst [])) (mup M1 D (.lst [])):=aR.own rm1 hD
 have rmD:RelM K (upd H1 D (.lst [])) (mup M1 D (.lst [])):=rm1.put sD ⟨[],cE,.nil⟩
 refine ⟨fun i m H2=>∃ M2 ys,aR H1 M1 H2 M2/\RelM K H2 M2/\P i ys M2/\i<=S.xs.length/\m=S.xs.length - i,⟨_,_,[],sD,rmD,p0,Nat.zero_le _,rfl⟩,?_⟩
 rintro i m H2 ⟨M2,ys,s2,rm2,p2,hle,rfl⟩
 obtain ⟨ok2,d2,l2⟩:=inv i ys M2 p2
 by_cases hlt:i < S.xs.length
 ·obtain ⟨go,yl⟩:=w.step H2 M2 s2 rm2 ok2 i S.xs[i] (by simp [hlt])
  refine .inr ⟨go,fun x H3 y=>?_⟩
  obtain ⟨s3,rm3,ru⟩:=yl x H3 y
  have rs3:eJ K H3 M2 (fG k ix σ) (fG k ix τ):=JZ k ix (((rs.stp s1).stp s2).stp s3)
  refine hg _ x _ _ H3 M2 _ ru rs3 rm3 (turn i S.xs[i] ys M2 (by simp [hlt]) p2) _ fun σ4 τ4 H4 M4 s4 rm4 rs4 q4=>?_
  refine hc σ4 τ4 H4 M4 _ rs4 rm4 q4 _ fun b M5 H5 s5 rm5 q5=>?_
  have s25:aR H1 M1 H5 M5:=((s2.trans s3).trans s4).trans s5
  cases b with
  | false =>
   exact ⟨S.xs.length - (i + 1),by omega,M5,ys,s25,rm5,q5,hlt,rfl⟩
  | true =>
   refine he σ4 τ4 H5 M5 _ (rs4.stp s5) rm5 q5 _ fun u v M6 H6 s6 rm6 ru6 q6=>?_
   obtain ⟨d6,p6⟩:=q6
   obtain ⟨vs,h6,r6⟩:=rm6 D _ d6
   have l6:vs.length < sizeLine:=by rw [<- r6.length];omega
   have s7:aR H6 M6 (upd H6 D (.lst (vs++[v]))) (mup M6 D (.lst (ys++[u]))):=aR.write d6
   exact ⟨vs,h6,l6,S.xs.length - (i + 1),by omega,_,ys++[u],(s25.trans s6).trans s7,rm6.put s7 ⟨_,cE,(r6.append (.cons ru6 .nil)).stp s7⟩,p6,hlt,rfl⟩
 ·have e:i=S.xs.length:=by omega
  subst e
  refine .inl ⟨w.stop H2 M2 s2 rm2 ok2,?_⟩
  have q:=fin ys M2 p2
  cases o with
  | true=>exact c _ _ M2 H2 (s1.trans s2) rm2 jB q
  | false =>
   obtain ⟨M',sb,n,q⟩:=q
   obtain ⟨vs,h6,r6⟩:=rm2 D _ d2
   have s':aR H2 M2 H2 M':=sb.less
   exact c _ _ M' H2 ((s1.trans s2).trans s') (rm2.sub sb) (sY n h6 (r6.stp s')) q
end
theorem HV {o:Bool} {k:Nat} {ix:List Nat} {wi:UI} {g:UG} {tc:UT} {te:UE} {τ:SU} {M1:aF} {Q:UK} {S:Src} (f:U->Option U) (hz:S.xs.length<=sizeLine) (hs:S.ok M1)
  (h:∀ x∈S.xs,∀ M,Sub M1 M->∀ R:Option U->aF->Prop,R (f x) M->g x (fG k ix τ) M fun τ2 M2=>tc τ2 M2 fun ok M3=>if ok=true then te τ2 M3 fun y M4=>R (some y) M4 else R none M3)
  (q:iH o (S.xs.filterMap f) M1 Q):S.xs.length<=sizeLine/\∀ D,M1 D=none->∃ P:Nat->List U->aF->Prop,P 0 [] (mup M1 D (.lst [])) /\
 (∀ i ys M,P i ys M->S.ok M/\M D=some (.lst ys)/\ys.length<=i) /\
 (∀ i x ys M,S.xs[i]?=some x->P i ys M->g x (fG k ix τ) M fun τ2 M2=>tc τ2 M2 fun ok M3=>if ok=true then te τ2 M3 fun y M4=>M4 D=some (.lst ys)/\P (i + 1) (ys++[y]) (mup M4 D (.lst (ys++[y]))) else P (i + 1) ys M3) /\
 ∀ ys M,P S.xs.length ys M->PB o Q D ys M:=by
 refine ⟨hz,fun D hD=>⟨fun i ys M=>ys=(S.xs.take i).filterMap f/\M=mup M1 D (.lst ys)/\i<=S.xs.length,⟨by simp,rfl,Nat.zero_le _⟩,?_,?_,?_⟩⟩
 ·rintro i ys M ⟨rfl,rfl,hi⟩
  refine ⟨fun a e=>?_,aD,?_⟩
  ·have:=hs a e
   rw [aG (fun z=>by subst z;rw [hD] at this;cases this)]
   exact this
  ·refine Nat.le_trans (List.length_filterMap_le _ _) ?_
   rw [List.length_take];omega
 ·rintro i x ys M e ⟨rfl,rfl,hi⟩
  have hlt:i < S.xs.length:=(List.getElem?_eq_some_iff.mp e).1
  have hx:x∈S.xs:=List.mem_of_getElem? e
  have tk:(S.xs.take (i + 1)).filterMap f=(S.xs.take i).filterMap f++(f x).toList:=by
   rw [List.take_add_one,e,List.filterMap_append]
   cases q:f x <;> simp [q]
  refine h x hx (mup M1 D (.lst ((S.xs.take i).filterMap f))) ((Sub.refl M1).mup hD) (fun r M4=>match r with
   | some y=>M4 D=some (.lst ((S.xs.take i).filterMap f))/\((S.xs.take i).filterMap f++[y]=(S.xs.take (i + 1)).filterMap f/\mup M4 D (.lst ((S.xs.take i).filterMap f++[y]))=mup M1 D (.lst ((S.xs.take i).filterMap f++[y]))/\i + 1<=S.xs.length)
   | none=>(S.xs.take i).filterMap f=(S.xs.take (i + 1)).filterMap f/\M4=mup M1 D (.lst ((S.xs.take i).filterMap f))/\i + 1<=S.xs.length) ?_
  rw [tk]
  cases f x with
  | none=>exact ⟨by simp,rfl,hlt⟩
  | some y=>exact ⟨aD,rfl,aV,hlt⟩
 ·rintro ys M ⟨rfl,rfl,hi⟩
  rw [List.take_length]
  cases o with
  | true=>exact q D hD
  | false=>exact ⟨M1,(Sub.refl M1).mup hD,hD,q⟩
end U2
namespace U2
open PySem PySem.Spec PyProof.Rows L2
theorem C4 {P:Program} {w:World} {K:PySem.W.Frag} {tg:Expr} {ty:String} (z:Str) (t:Tok) (it:Addr)
  (W:∀ A':Around,A'.handled=none->Walks P w A' it [it] [it] z.cps.size (SignAt z) (fun i h=>h.IsStrIter it ty z t i))
  (hty:["enumerate","zip","dict_itemiterator","dict_reverseitemiterator","odict_iterator","itertools.zip_longest","itertools.pairwise"].contains ty=false)
  (self:∀ (A:Around) (i:Nat) (s:Shared) (Q:Value->Shared->Prop) (E:Value->Shared->Prop),s.heap.IsStrIter it ty z t i->Q (.ref it) s->wpAny (model P w) A (pyIter (.ref it)) Q E s) :
  Turn P w K tg (O6 z) [it] it (fun i h=>h.IsStrIter it ty z t i) where
 mem:=by simp
 obj:=fun i h st b hb=>by
  have e:b=it:=by simpa using hb
  subst e
  obtain ⟨o,e,c,d⟩:=st
  exact ⟨o,e,fun v z=>by rw [d] at z;cases z⟩
 keep:=fun i h h' st k=>let ⟨o,ho,r⟩:=st;⟨o,k it (by simp) o ho,r⟩
 item:=by
  intro X hP hw hK hc i pins s σ H E I hf st hg
  subst hP hw hK
  obtain ⟨f0,f1,f2,f3,f4,f5⟩:=hf it (by simp)
  refine (W X.A (I.ok.hd hc)).item i s _ E hg st fun v h' tk hv st' k=>?_
  obtain ⟨c,u,hc',rfl⟩:=hv
  have I1:Inv X pins σ H { s with heap:=h',toks:=tk }:=I.turned (t':=tk) (fun b o hb e=>k b o (by simpa using hb) e) f0 f1 f3 f4 f5
  obtain ⟨o,e,cl,d⟩:=id st'
  exact ⟨_,rfl,vG (s:={ s with heap:=h',toks:=tk }) e cl d hty ⟨.str ⟨#[c]⟩,H,I1,⟨_,rfl⟩,⟨rfl,c,hc',rfl⟩,st',fun b hb=>(hf b hb).1⟩⟩
 done:=by
  intro X hP hw hK hc i pins s σ H E I hf st hg
  subst hP hw hK
  have hg':i=z.cps.size:=hg
  subst hg'
  obtain ⟨f0,f1,f2,f3,f4,f5⟩:=hf it (by simp)
  exact (W X.A (I.ok.hd hc)).done s _ E st fun h' tk k=>⟨rfl,I.turned (t':=tk) (fun b o hb e=>k b o (by simpa using hb) e) f0 f1 f3 f4 f5⟩
 self:=self
section
variable {X:Cx} {tg:Expr}
theorem Qw {l:Expr} {tl:TE} (hl:PE X l tl):PI X tg l (O7 X.K tl):=by
 intro pins s σ H R I h
 refine bI (hl pins s σ H _ I h) fun v s1 ⟨x,H1,I1,r1,q1⟩=>?_
 have fp:∀ b∈[s1.heap.objs.size],sZ X pins H1 b:=fun b hb=>by
  have e:b=s1.heap.objs.size:=by simpa using hb
  subst e
  exact I1.fpOk (Nat.le_refl _) (I1.hok.fresh (Nat.le_refl _))
 rcases q1 with ⟨a,rfl,⟨xs,hq⟩,q⟩ | ⟨a,rfl,⟨xs,hq⟩,q⟩ | ⟨z,rfl,q⟩
 ·cases r1
  obtain ⟨its,rv,p,hz⟩:=I1.list hq
  refine wpAny_pyIter_list p.isList ?_
  exact ⟨s1.heap.objs.size,[s1.heap.objs.size],_,_,H1,rfl,I1.kept (t':=s1.toks) fun b o e=>Heap.get?_push_of_some _ e,HA a _,⟨_,Heap.get?_push_size _ rfl,rfl,rfl⟩,fp,q⟩
 ·cases r1
  obtain ⟨its,rv,p,hz⟩:=I1.tuple hq
  refine wpAny_pyIter_tuple (show s1.heap.IsTuple a its.toArray from p) ?_
  exact ⟨s1.heap.objs.size,[s1.heap.objs.size],_,_,H1,rfl,I1.kept (t':=s1.toks) fun b o e=>Heap.get?_push_of_some _ e,Fs a _,⟨_,Heap.get?_push_size _ rfl,rfl,rfl⟩,fp,q⟩
 ·obtain ⟨t,rfl⟩:=r1
  cases ha:z.cps.all (· < 128)
  ·refine wpAny_pyIter_wide ha ?_
   exact ⟨s1.heap.objs.size,[s1.heap.objs.size],_,_,H1,rfl,I1.kept (t':=s1.toks) fun b o e=>Heap.get?_push_of_some _ e,
    C4 z t _ (fun A' hA=>Walks.strWide hA _ z t) (by decide) (fun A i s Q E st h=>wpAny_pyIter_striter_wide st h),⟨_,Heap.get?_push_size _ rfl,rfl,rfl⟩,fp,q⟩
  ·refine wpAny_pyIter_ascii ha ?_
   exact ⟨s1.heap.objs.size,[s1.heap.objs.size],_,_,H1,rfl,I1.kept (t':=s1.toks) fun b o e=>Heap.get?_push_of_some _ e,
    C4 z t _ (fun A' hA=>Walks.strAscii hA _ z t) (by decide) (fun A i s Q E st h=>wpAny_pyIter_striter_ascii st h),⟨_,Heap.get?_push_size _ rfl,rfl,rfl⟩,fp,q⟩
end
section
variable {prog:Program} {w:World} {A:Around} {R:Result->Shared->Prop} {s:Shared}
theorem DF {elt target iter:Expr} {ifs:List Expr} {scope:Scope} {pos:Pos} {it acc:Value} {env:Env} (I:Nat->Shared->Prop)
  (turn:∀ n s,I n s->wpAny (model prog w) A (pyNext it) (fun r s₁=>match r with
   | none=>R (.ok .next) s₁
   | some v=>wpAny (model prog w) A (letOwnedTupleGo target it v) (fun _ s₀=>wpAny (model prog w) A (assign target env v) (fun _ s₂ =>
     wpAny (model prog w) A (forIn ifs true fun c r=>if r=true then do let ok <- isTrue c env (eval c env);pure (ForInStep.yield ok) else pure (ForInStep.yield r)) (fun ok s₃ =>
      if ok=true then wpAny (model prog w) A (eval elt env) (fun x s₄ =>
       wpAny (model prog w) A (call (.builtin "list.append") [acc,x]) (fun _ s₅=>∃ m,m < n/\I m s₅) (fun _ _=>False) s₄) (fun _ _=>False) s₃
      else ∃ m,m < n/\I m s₃) (fun _ _=>False) s₂) (fun _ _=>False) s₀) (fun _ _=>False) s₁) (fun _ _=>False) s)
  (n:Nat) (h:I n s) :
  codeAny (model prog w) A (.compLoop (.ListComp elt [⟨target,iter,ifs,0⟩] scope pos) 0 it acc env) R s:=by
 refine codeAny_loop rfl I (fun n s hI=>?_) n h
 show wpAny _ A ((compTurn (.ListComp elt [⟨target,iter,ifs,0⟩] scope pos) 0 it acc env).onRaise (fun x=>do noteFrame x env;theTreesLotGoes x)) _ _ s
 refine wpAny_noted ?_
 rw [compTurn_list]
 refine wpAny_bind (wpAny_standAt (wpAny_bind (wpAny_mono (turn n s hI) (fun r s₁ h₁=>?_) fun _ _ h'=>h'.elim)))
 cases r with
 | none=>exact wpAny_pure h₁
 | some v =>
  refine wpAny_bind (wpAny_mono h₁ (fun _ s₀ h₀=>?_) fun _ _ h'=>h'.elim)
  refine wpAny_bind (wpAny_mono h₀ (fun _ s₂ h₂=>wpAny_bind (wpAny_mono h₂ (fun ok s₃ h₃=>?_) fun _ _ h'=>h'.elim)) fun _ _ h'=>h'.elim)
  cases ok with
  | false=>exact wpAny_pure ⟨rfl,h₃⟩
  | true =>
   exact wpAny_bind (wpAny_bind (wpAny_mono h₃ (fun x s₄ h₄=>wpAny_bind (wpAny_mono h₄ (fun _ s₅ h₅=>wpAny_pure (wpAny_pure ⟨rfl,h₅⟩)) fun _ _ h'=>h'.elim)) fun _ _ h'=>h'.elim))
theorem rY {env:Env}:∀ (names:List (Str × NameKind)) (cs:List (Str × Addr)),(∀ x∈names,x.2=.free->∃ c,env.cells.lookup x.1=some c) ->
  (∀ x c,cs.lookup x=some c->env.cells.lookup x=some c) ->
  ∃ cl,(forIn names cs fun (x:Str × NameKind) (cs:List (Str × Addr))=>(if (x.2 == NameKind.free)=true then do let c <- cellOf env x.1;pure (ForInStep.yield ((x.1,c) :: cs)) else pure (ForInStep.yield cs):Sem (ForInStep (List (Str × Addr)))))=pure cl /\
   (∀ x c,cl.lookup x=some c->env.cells.lookup x=some c)/\(∀ x,(∃ c,cs.lookup x=some c)\/(x,NameKind.free)∈names->∃ c,cl.lookup x=some c)
 | [],cs,_,h=>⟨cs,rfl,h,fun x hx=>by rcases hx with hx | hx;exact hx;cases hx⟩
 | (n,k) :: r,cs,hf,h=>by
  rw [List.forIn_cons]
  by_cases hk:k=.free
  ·subst hk
   obtain ⟨c,hc⟩:=hf (n,.free) List.mem_cons_self rfl
   have e:cellOf env n=pure c:=by unfold cellOf;rw [hc]
   simp only [beq_self_eq_true,if_true,e,pure_bind]
   obtain ⟨cl,h1,h2,h3⟩:=rY r ((n,c) :: cs) (fun x hx=>hf x (List.mem_cons_of_mem _ hx)) (fun x d q=>by
    rw [List.lookup_cons] at q
    split at q
    ·rename_i e;cases q;rw [beq_iff_eq.mp e];exact hc
    ·exact h x d q)
   refine ⟨cl,h1,h2,fun x hx=>h3 x ?_⟩
   rcases hx with ⟨d,hd⟩ | hx
   ·left
    rw [List.lookup_cons]
    split
    ·exact ⟨_,rfl⟩
    ·exact ⟨d,hd⟩
   ·rcases List.mem_cons.mp hx with e | hx
    ·left;cases e;exact ⟨c,by simp [List.lookup_cons]⟩
    ·exact .inr hx
  ·have hb:(k == NameKind.free)=false:=by simpa using hk
   simp only [hb,Bool.false_eq_true,if_false,pure_bind]
   obtain ⟨cl,h1,h2,h3⟩:=rY r cs (fun x hx=>hf x (List.mem_cons_of_mem _ hx)) h
   refine ⟨cl,h1,h2,fun x hx=>h3 x ?_⟩
   rcases hx with hx | hx
   ·exact .inl hx
   ·rcases List.mem_cons.mp hx with e | hx
    ·cases e;exact absurd rfl hk
    ·exact .inr hx
theorem tK {env:Env} {scope:Scope} (hf:∀ x∈scope.names,x.2=.free->∃ c,env.cells.lookup x.1=some c) :
  ∃ cl,closureFor scope env=pure cl/\(∀ x c,cl.lookup x=some c->env.cells.lookup x=some c)/\(∀ x,(x,NameKind.free)∈scope.names->∃ c,cl.lookup x=some c):=by
 obtain ⟨cl,h1,h2,h3⟩:=rY (env:=env) scope.names [] hf (fun x c h=>by cases h)
 refine ⟨cl,?_,h2,fun x hx=>h3 x (.inr hx)⟩
 unfold closureFor
 first
  | exact h1
  | (have:_:=h1;simpa using this)
end
def eB (X:Cx) (N:List Str) (scope:Scope) (cl:List (Str × Addr)) (C:Addr) (s:Shared) (H:Hp) (fp:List Addr):Cx where
 prog:=X.prog
 w:=X.w
 K:=X.K
 mg:=X.mg
 base:=X.base
 A:=X.A
 N:=N
 s₀:=s
 H₀:=H
 env:=compEnvC scope cl C X.env
 outer:=X.stack
 stack:=X.stack
 ex:=fp
 fn:=fun _=>false
 calm:=X.calm
 pn:=[]
 xe:=fun _ _=>False
def Eh (X:Cx) (ifs:List Expr) (t:TT):Prop :=
 ∀ (pins:List (Addr × Obj)) (s:Shared) (σ:L2.St) (H:Hp) (Q:Bool->Hp->Prop),Inv X pins σ H s->t σ H Q ->
  wpAny (model X.prog X.w) X.A (forIn ifs true fun c r=>if r=true then do let ok <- isTrue c X.env (eval c X.env);pure (ForInStep.yield ok) else pure (ForInStep.yield r)) (TP X pins σ Q) X.xe s
def OQ:TT:=fun _ H Q=>Q true H
theorem Ob {X:Cx}:Eh X [] OQ:=fun pins s σ H Q I h=>wpAny_tests_nil ⟨H,I,h⟩
theorem MZ {X:Cx} {c:Expr} {t:TT} (h:PT X c t):Eh X [c] t:=fun pins s σ H Q I q=>wpAny_tests_one (h pins s σ H Q I q)
def GK (k:Nat) (g:TG):Prop:=∀ x σ H Q,g x σ H Q->g x σ H (fun σ2 H2=>(∀ j,k<=j->σ2[j]?=σ[j]?)/\Q σ2 H2)
def IM (k:Nat) (g:pY):Prop:=∀ xs σ H Q,g xs σ H Q->g xs σ H (fun σ2 H2=>(∀ j,k<=j->σ2[j]?=σ[j]?)/\Q σ2 H2)
theorem Nt {k i:Nat} (h:i < k):GK k (sT i):=fun x σ H Q q=>⟨fun j hj=>by rw [List.getElem?_set,if_neg (by omega)],q⟩
theorem PC {k:Nat}:IM k B6:=fun xs σ H Q q=>⟨q.1,fun j _=>rfl,q.2⟩
theorem Ou {k:Nat} {g:TG} {r:pY} (h1:GK k g) (h2:IM k r) (m2:∀ xs σ H Q Q',(∀ σ2 H2,Q σ2 H2->Q' σ2 H2)->r xs σ H Q->r xs σ H Q') (m1:∀ x σ H Q Q',(∀ σ2 H2,Q σ2 H2->Q' σ2 H2)->g x σ H Q->g x σ H Q'):IM k (xU g r):=fun xs σ H Q q=>by
 obtain ⟨v,r',rfl,q⟩:=q
 refine ⟨v,r',rfl,m1 _ _ _ _ _ (fun σ2 H2 z=>?_) (h1 _ _ _ _ q)⟩
 exact m2 _ _ _ _ _ (fun σ3 H3 y=>⟨fun j hj=>(y.1 j hj).trans (z.1 j hj),y.2⟩) (h2 _ _ _ _ z.2)
theorem O4 {i:Nat}:∀ x σ H (Q Q':L2.St->Hp->Prop),(∀ σ2 H2,Q σ2 H2->Q' σ2 H2)->sT i x σ H Q->sT i x σ H Q':=fun x σ H Q Q' h q=>h _ _ q
theorem QP:∀ xs σ H (Q Q':L2.St->Hp->Prop),(∀ σ2 H2,Q σ2 H2->Q' σ2 H2)->B6 xs σ H Q->B6 xs σ H Q':=fun x σ H Q Q' h q=>⟨q.1,h _ _ q.2⟩
theorem Qi {g:TG} {r:pY} (m1:∀ x σ H Q Q',(∀ σ2 H2,Q σ2 H2->Q' σ2 H2)->g x σ H Q->g x σ H Q') (m2:∀ xs σ H Q Q',(∀ σ2 H2,Q σ2 H2->Q' σ2 H2)->r xs σ H Q->r xs σ H Q') :
  ∀ xs σ H (Q Q':L2.St->Hp->Prop),(∀ σ2 H2,Q σ2 H2->Q' σ2 H2)->xU g r xs σ H Q->xU g r xs σ H Q':=fun xs σ H Q Q' h q=>by
 obtain ⟨v,r',rfl,q⟩:=q
 exact ⟨v,r',rfl,m1 _ _ _ _ _ (fun σ2 H2 z=>m2 _ _ _ _ _ h z) q⟩
theorem Qe {K:PySem.W.Frag} {k n:Nat} {r:pY} (h:IM k r):GK k (Ci K n r):=fun x σ H Q q=>by
 obtain ⟨a,xs,rfl,h1,h2,q⟩:=q
 exact ⟨a,xs,rfl,h1,h2,h _ _ _ _ q⟩
theorem Rh {K:PySem.W.Frag} {n:Nat} {r:pY} (m2:∀ xs σ H Q Q',(∀ σ2 H2,Q σ2 H2->Q' σ2 H2)->r xs σ H Q->r xs σ H Q') :
  ∀ x σ H (Q Q':L2.St->Hp->Prop),(∀ σ2 H2,Q σ2 H2->Q' σ2 H2)->Ci K n r x σ H Q->Ci K n r x σ H Q':=fun x σ H Q Q' h q=>by
 obtain ⟨a,xs,rfl,h1,h2,q⟩:=q
 exact ⟨a,xs,rfl,h1,h2,m2 _ _ _ _ _ h q⟩
theorem AR {X:Cx} {tg elt iter:Expr} {ifs:List Expr} {scope:Scope} {pos:Pos} {N:List Str} {k:Nat} {ix:List Nat} {wi:TI} {g:TG} {tc:TT} {te:TE}
  (hc:X.calm=true) (hi:PI X tg iter wi) (gk:GK k g)
  (hk:scope.kind=.function) (hcell:∀ y∈scope.names,y.2≠.cell) (hnames:∀ y∈scope.names,y.2=.local->scope.names.lookup y.1=some .local)
  (hfree:∀ y∈scope.names,y.2=.free->X.env.kindOf y.1=some .cell\/X.env.kindOf y.1=some .free)
  (hone:∀ y∈scope.names,y.2=.free->scope.names.lookup y.1=some .free)
  (hN:∀ (j:Nat) x,N[k + j]?=some x->∃ i,ix[j]?=some i/\X.N[i]?=some x)
  (hcap:∀ (j:Nat) x,N[k + j]?=some x->scope.names.lookup x=some .free)
  (hlen:N.length=k + ix.length)
  (hg:∀ cl C s H fp,PG (eB X N scope cl C s H fp) tg g)
  (hif:∀ cl C s H fp,Eh (eB X N scope cl C s H fp) ifs tc)
  (he:∀ cl C s H fp,PE (eB X N scope cl C s H fp) elt te)
  (hs:∀ x,foldedSetIterable iter X.env x=pure x) {pins:List (Addr × Obj)} {s:Shared} {σ:L2.St} {H:Hp} {Q:VK} (I:L2.Inv X pins σ H s) (h:BV k ix wi g tc te σ H Q) {pos':Pos} {use:Option (Value->Sem Unit)} {QQ:Value->Shared->Prop}
  (end_:∀ (D C:Addr) (H3:Hp) (s4:Shared),L2.Inv X pins σ H3 s4->(∃ m,s4.heap.Ns C m)->H3 C=none->C≠X.env.locals->X.s₀.heap.objs.size<=C->(∀ x c,X.env.cells.lookup x=some c->c≠C)->(∀ p∈X.pn++pins,p.1≠C) ->
   (∀ h':Heap,Heap.SameBut C s4.heap h'->L2.Inv X pins σ H3 { s4 with heap:=h' })->Q (.ref D) H3->compPost (model X.prog X.w) X.A X.xe use QQ (.ref D) C (.ok .next) s4) :
  wpAny (model X.prog X.w) X.A (comprehension (.ListComp elt [⟨tg,iter,ifs,0⟩] scope pos) scope X.env pos' (newList []) false (eval iter X.env) use) QQ X.xe s:=by
 obtain ⟨cl,hclos,hcl,hcl2⟩:=tK (env:=X.env) (scope:=scope) (fun x hx e=>I.ok.has x.1 (hfree x hx e))
 refine wpAny_comprehension_free (use:=use) rfl hs hclos hk hnames (bI (hi pins s σ H _ I h) fun v s1 h1=>bI h1 fun itv s2 h2=>?_)
 obtain ⟨it,fp,tn,J,H2,rfl,I2,T,cJ,f2,h2⟩:=h2
 refine wpAny_newObj_type (wpAny_newFunctionEnv hcell (by intro y hy;simp at hy) (fun h₁ hns₁ hsb₁=>?_) hk)
 dsimp only at hns₁ hsb₁ ⊢
 generalize hP:s2.heap.push { cls:=.type "list",dict:=none,data:=.seq ([]:List Value).toArray }=P2 at hns₁ hsb₁ ⊢
 have hCs:P2.objs.size=s2.heap.objs.size + 1:=by rw [<- hP,Heap.size_push]
 have below:∀ b,b < s2.heap.objs.size->b≠P2.objs.size:=fun b hb=>by rw [hCs];omega
 have old:∀ b o,s2.heap.get? b=some o->h₁.get? b=some o:=fun b o e=>hsb₁.extBut b o (below b (Heap.lt_size e)) (Heap.get?_push_of_some _ (hP ▸ Heap.get?_push_of_some _ e))
 have hacc:h₁.get? s2.heap.objs.size=some { cls:=.type "list",dict:=none,data:=.seq ([]:List Value).toArray }:=hsb₁.extBut _ _ (show s2.heap.objs.size≠P2.objs.size by rw [hCs];exact Nat.ne_of_lt (Nat.lt_succ_self _)) (Heap.get?_push_of_some _ (hP ▸ Heap.get?_push_size _ rfl))
 obtain ⟨W,⟨m0,w0⟩,turn⟩:=h2 s2.heap.objs.size (I2.hok.fresh (Nat.le_refl _))
 have fpl:∀ b∈fp,b < s2.heap.objs.size:=fun b hb=>let ⟨o,e,_⟩:=T.obj _ _ cJ b hb;Heap.lt_size e
 have σl:(fG k ix σ).length=N.length:=by rw [hlen];simp [fG]
 have i2:=I2.ok
 have ok':(eB X N scope cl P2.objs.size s2 H2 fp).Ok:=by
  refine ⟨i2.mod,hk,i2.glob,i2.blt,(by show s2.heap.objs.size<=P2.objs.size;rw [hCs];exact Nat.le_succ _),fun x y c e1 e2=>i2.inj x y c (hcl x c e1) (hcl y c e2),fun x hx=>?_,(fun x c e=>by cases e),i2.hd,i2.frames,.inl rfl,fun b hb=>?_,fun b o e=>I2.bs b o e,Nat.le_trans i2.bsz I2.sz,fun b o e hb=>?_,fun b hb hb2=>?_,I2.stack,I2.stkFree⟩
  ·
   have hx':(relabel scope X.env).names.lookup x=some .cell\/(relabel scope X.env).names.lookup x=some .free:=hx
   have key:∀ (names:List (Str × NameKind)),(∀ y∈names,y.2≠.cell)->((names.map fun (n,k)=>if (k == NameKind.free && X.env.scope.kind == .function && X.env.kindOf n == some .cell) then (n,NameKind.cell) else (n,k)).lookup x=some .cell \/
     (names.map fun (n,k)=>if (k == NameKind.free && X.env.scope.kind == .function && X.env.kindOf n == some .cell) then (n,NameKind.cell) else (n,k)).lookup x=some .free)->(x,NameKind.free)∈names:=by
    intro names
    induction names with
    | nil=>intro _ h;rcases h with h | h <;> cases h
    | cons y r ih =>
     obtain ⟨n,kd⟩:=y
     intro hnc h
     by_cases hxn:x=n
     ·subst hxn
      have hkc:kd≠.cell:=hnc (x,kd) List.mem_cons_self
      by_cases hkf:kd=.free
      ·subst hkf;exact List.mem_cons_self
      ·exfalso
       have hb:(kd == NameKind.free)=false:=by simpa using hkf
       simp only [List.map_cons,hb,Bool.false_and,Bool.false_eq_true,if_false,List.lookup_cons,beq_self_eq_true] at h
       rcases h with h | h
       ·exact hkc (Option.some.inj h)
       ·exact hkf (Option.some.inj h)
     ·have hb:(x == n)=false:=by simpa using hxn
      refine List.mem_cons_of_mem _ (ih (fun y hy=>hnc y (List.mem_cons_of_mem _ hy)) ?_)
      have e1:∀ z:NameKind,List.lookup x (((n,z)) :: (r.map fun (n,k)=>if (k == NameKind.free && X.env.scope.kind == .function && X.env.kindOf n == some .cell) then (n,NameKind.cell) else (n,k)))=List.lookup x (r.map fun (n,k)=>if (k == NameKind.free && X.env.scope.kind == .function && X.env.kindOf n == some .cell) then (n,NameKind.cell) else (n,k)):=fun z=>by rw [List.lookup_cons,hb]
      rw [List.map_cons] at h
      dsimp only at h
      split at h
      ·rw [e1] at h;exact h
      ·rw [e1] at h;exact h
   exact hcl2 x (key scope.names hcell hx')
  ·exact ⟨below b (fpl b hb),fun x c e=>(f2 b hb).2.2.2.2.1 x c (hcl x c e)⟩
  ·rcases (f2 b hb).2.2.2.1 with z | z
   ·exact i2.noex b o e z
   ·exact absurd (Nat.lt_of_lt_of_le (Heap.lt_size e) (Nat.le_trans i2.bsz z)) (Nat.lt_irrefl _)
  ·rcases List.mem_cons.mp (I2.stkSub b hb2) with z | z
   ·exact (f2 b hb).2.1 z
   ·exact (f2 b hb).2.2.1 z
 have stat:∀ {H':Hp},(∀ b∈fp,H' b=none)->∀ b∈fp,sZ (eB X N scope cl P2.objs.size s2 H2 fp) [] H' b:=fun hn b hb =>
  ⟨hn b hb,below b (fpl b hb),fun z=>ok'.exfs b hb z,.inl hb,fun x c e=>(f2 b hb).2.2.2.2.1 x c (hcl x c e),(fun p hp=>by cases hp)⟩
 have hD:H2 s2.heap.objs.size=none:=I2.hok.fresh (Nat.le_refl _)
 have relf:∀ x,scope.names.lookup x=some .free->(X.env.kindOf x=some .cell\/X.env.kindOf x=some .free)->((relabel scope X.env).names.lookup x=some .cell\/(relabel scope X.env).names.lookup x=some .free):=by
  intro x hx hkx
  have key:∀ (names:List (Str × NameKind)),names.lookup x=some .free->((names.map fun (n,k)=>if (k == NameKind.free && X.env.scope.kind == .function && X.env.kindOf n == some .cell) then (n,NameKind.cell) else (n,k)).lookup x=some .cell \/
    (names.map fun (n,k)=>if (k == NameKind.free && X.env.scope.kind == .function && X.env.kindOf n == some .cell) then (n,NameKind.cell) else (n,k)).lookup x=some .free):=by
   intro names
   induction names with
   | nil=>intro h;cases h
   | cons y r ih =>
    obtain ⟨n,kd⟩:=y
    intro h
    rw [List.lookup_cons] at h
    by_cases hxn:x=n
    ·subst hxn
     simp only [beq_self_eq_true] at h
     cases h
     rw [List.map_cons]
     dsimp only
     split
     ·left;simp [List.lookup_cons]
     ·right;simp [List.lookup_cons]
    ·have hb:(x == n)=false:=by simpa using hxn
     rw [hb] at h
     have:=ih h
     rw [List.map_cons]
     dsimp only
     split
     ·rw [List.lookup_cons,hb];exact this
     ·rw [List.lookup_cons,hb];exact this
  exact key scope.names hx
 have Istart:∀ tk,Inv (eB X N scope cl P2.objs.size s2 H2 fp) [] (fG k ix σ) (upd H2 s2.heap.objs.size (.lst [])) { s2 with heap:=h₁,toks:=tk }:=fun tk=>by
  refine ⟨ok',rfl,I2.bare,Un.laid old (Nat.le_refl _) hD,⟨_,hns₁,fun i x v e1 e2 e3=>?_⟩,fun x c e=>?_,?_,fun x c e=>?_,(fun p hp=>by cases hp),I2.hok.laid old (Nat.le_refl _) ⟨Nat.zero_le _,[],_,.nil,hacc⟩,σl⟩
  ·by_cases hik:i < k
   ·exfalso
    unfold fG at e2
    rw [List.getElem?_append_left (by simpa using hik),List.getElem?_replicate] at e2
    split at e2 <;> cases e2
   ·have ej:i=k + (i - k):=by omega
    have e1':N[k + (i - k)]?=some x:=by rw [<- ej];exact e1
    obtain ⟨i0,hi0,hXN⟩:=hN (i - k) x e1'
    have hfx:=hcap (i - k) x e1'
    have hmem:(x,NameKind.free)∈scope.names:=PySem.mem_of_lookup hfx
    have hkx:=hfree _ hmem rfl
    have e4:σ[i0]?=some (some v):=by
     unfold fG at e2
     rw [List.getElem?_append_right (by simpa using Nat.le_of_not_lt hik),List.getElem?_map] at e2
     simp only [List.length_replicate,hi0,Option.map_some,Option.some.injEq] at e2
     cases z:σ[i0]? with
     | none=>rw [z] at e2;cases e2
     | some y=>rw [z] at e2;simp only [Option.getD_some] at e2;rw [e2]
    obtain ⟨m2,hn2,hl2⟩:=I2.loc
    obtain ⟨u,ru,lk⟩:=hl2 i0 x v hXN e4 (by rcases hkx with z | z;exact .inr (.inl z);exact .inr (.inr z))
    rcases lk with ⟨z,_⟩ | ⟨_,c,hc1,hc2⟩
    ·exfalso
     have z':X.env.kindOf x=some .local:=z
     rcases hkx with y | y <;> (rw [z'] at y;cases y)
    ·obtain ⟨c',hc'⟩:=hcl2 x hmem
     have e5:=hcl x c' hc'
     rw [hc1] at e5;cases e5
     obtain ⟨o,ho,hd⟩:=hc2
     exact ⟨u,ru,.inr ⟨relf x hfx hkx,c,hc',o,old _ _ ho,hd⟩⟩
  ·obtain ⟨v,o,ho,hd⟩:=I2.cell x c (hcl x c e)
   exact ⟨v,o,old _ _ ho,hd⟩
  ·show upd H2 s2.heap.objs.size (.lst []) P2.objs.size=none
   rw [bL (show P2.objs.size≠s2.heap.objs.size by rw [hCs];exact Nat.succ_ne_self _)]
   exact I2.hok.fresh (show s2.heap.objs.size<=P2.objs.size by rw [hCs];exact Nat.le_succ _)
  ·have e':=hcl x c e
   obtain ⟨v,o,ho,hd⟩:=I2.cell x c e'
   rw [bL (Nat.ne_of_lt (Heap.lt_size ho))]
   exact I2.freeC x c e'
 have st1:tn 0 h₁:=T.keep 0 _ _ cJ fun b hb o e=>old b o e
 have fr1:∀ b∈fp,upd H2 s2.heap.objs.size (.lst []) b=none:=fun b hb=>by rw [bL (Nat.ne_of_lt (fpl b hb))];exact (f2 b hb).1
 have fin:∀ (H3:Hp) (s4:Shared),Inv (eB X N scope cl P2.objs.size s2 H2 fp) [] (fG k ix σ) H3 s4->∀ h':Heap,Heap.SameBut P2.objs.size s4.heap h'->Inv X pins σ H3 { s4 with heap:=h' }:=fun H3 s4 I4 h' sb=>by
  have kp:∀ b o,b < s2.heap.objs.size->s4.heap.get? b=some o->h'.get? b=some o:=fun b o hb e=>sb.extBut b o (below b hb) e
  have u:Un (iU X.stack) fp H2 H3 s2.heap s4.heap:=I4.base
  refine I2.call' (ch:=fp) (H':=H3) I4.os ⟨fun b o q n hb hx=>kp b o (Heap.lt_size q) (u.keep b o q n hb hx),fun b o q n hb hx=>?_,u.free,fun b o q hx=>?_,u.tups,u.frzs,u.tbls⟩ (fun a o e=>?_) I4.bare fun b hb=>⟨(f2 b hb).2.2.2.1,(f2 b hb).2.1,(f2 b hb).2.2.2.2.1,(f2 b hb).2.2.2.2.2⟩
  ·obtain ⟨sl,e⟩:=u.slot b o q n hb hx
   exact ⟨sl,kp b _ (Heap.lt_size q) e⟩
  ·obtain ⟨o',e⟩:=u.there b o q hx
   exact ⟨o',kp b _ (Heap.lt_size q) e⟩
  ·have nC:H3 P2.objs.size=none:=I4.free
   refine (I4.hok a o e).stay (fun b z hb q=>sb.extBut b z ?_ q) (fun _ q=>q) fun _ _ q=>q
   rcases hb with rfl | hb
   ·exact cI e nC
   ·exact cI hb nC
 have loop:∀ tk,codeAny (model X.prog X.w) X.A (.compLoop (.ListComp elt [⟨tg,iter,ifs,0⟩] scope pos) 0 (.ref it) (.ref s2.heap.objs.size) (compEnvC scope cl P2.objs.size X.env))
   (compPost (model X.prog X.w) X.A X.xe use QQ (.ref s2.heap.objs.size) P2.objs.size) { s2 with heap:=h₁,toks:=tk }:=fun tk=>by
  refine DF (fun n s'=>∃ i H',Inv (eB X N scope cl P2.objs.size s2 H2 fp) [] (fG k ix σ) H' s'/\tn i s'.heap/\(∀ b∈fp,H' b=none)/\W i n H') ?_ m0 ⟨0,_,Istart tk,st1,fr1,w0⟩
  rintro n s3 ⟨i,H3,I3,st3,fr3,w3⟩
  rcases turn i n H3 w3 with ⟨stop,q⟩ | ⟨go,step⟩
  ·refine bI (T.done (eB X N scope cl P2.objs.size s2 H2 fp) rfl rfl rfl hc i [] s3 _ H3 (fun _ _=>False) I3 (stat fr3) st3 stop) fun r s4 ⟨hr,I4⟩=>?_
   subst hr
   obtain ⟨m,hn,_⟩:=I4.loc
   refine end_ s2.heap.objs.size P2.objs.size H3 s4 (fin H3 s4 I4 s4.heap (Heap.SameBut.refl ..)) ⟨m,hn⟩ I4.free (Ne.symm (below _ I2.lt)) (Nat.le_trans I2.sz (show s2.heap.objs.size<=P2.objs.size by rw [hCs];exact Nat.le_succ _)) (fun x c e=>?_) (fun p hp=>below _ (Heap.lt_size (I2.pin p hp).1)) (fin H3 s4 I4) q
   obtain ⟨v,o,ho,_⟩:=I2.cell x c e
   exact below _ (Heap.lt_size ho)
  ·refine bI (T.item (eB X N scope cl P2.objs.size s2 H2 fp) rfl rfl rfl hc i [] s3 _ H3 (fun _ _=>False) I3 (stat fr3) st3 go) fun r s4 ⟨u,hr,h4⟩=>?_
   subst hr
   refine bI h4 fun _ s5 ⟨x,H5,I5,r5,y5,st5,fr5⟩=>?_
   have I5':=I5.pinned (stat fr5) (T.obj _ _ st5)
   refine bI (hg cl P2.objs.size s2 H2 fp _ s5 _ H5 x u _ I5' r5 (gk _ _ _ _ (step x H5 y5))) fun _ s6 ⟨σ6,H6,I6,ag,q6⟩=>?_
   have again:∀ {s7:Shared} {H7:Hp} {m':Nat},Inv (eB X N scope cl P2.objs.size s2 H2 fp) ([]++uT fp s5.heap) σ6 H7 s7->m' < n->W (i + 1) m' H7->∃ m,m < n/\∃ i H',Inv (eB X N scope cl P2.objs.size s2 H2 fp) [] (fG k ix σ) H' s7/\tn i s7.heap/\(∀ b∈fp,H' b=none)/\W i m H':=fun {s7 H7 m'} I7 hm w7=>by
    refine ⟨m',hm,i + 1,H7,(I7.unpinned).weak (by rw [σl];exact (I7.len).symm) (fun j v e=>?_),T.keep _ _ _ st5 fun b hb o e=>(I7.pin (b,o) (List.mem_append_right _ (List.mem_append_right _ (o8 hb e)))).1,fun b hb=>?_,w7⟩
    ·by_cases hj:j < k
     ·exfalso
      unfold fG at e
      rw [List.getElem?_append_left (by simpa using hj),List.getElem?_replicate] at e
      split at e <;> cases e
     ·rw [ag j (by omega)];exact e
    ·obtain ⟨o,e,d⟩:=T.obj _ _ st5 b hb
     exact (I7.pin (b,o) (List.mem_append_right _ (List.mem_append_right _ (o8 hb e)))).2.1
   refine bI (hif cl P2.objs.size s2 H2 fp _ s6 σ6 H6 _ I6 q6) fun ok s7 ⟨H7,I7,q7⟩=>?_
   cases ok with
   | false =>
    obtain ⟨m',hm,w7⟩:=q7
    exact again I7 hm w7
   | true =>
    refine bI (he cl P2.objs.size s2 H2 fp _ s7 σ6 H7 _ I7 q7) fun y s8 ⟨yv,H8,I8,r8,ys,hD8,hz8,m',hm,w8⟩=>?_
    refine bI (AX _ s8 σ6 H8 (.ref s2.heap.objs.size) [yv] (.ref s2.heap.objs.size) [y] (fun v H9=>H9=upd H8 s2.heap.objs.size (.lst (ys++[yv]))) I8 rfl (.cons r8 .nil) ⟨_,ys,yv,rfl,rfl,hD8,hz8,rfl⟩) fun _ s9 ⟨_,H9,I9,_,e9⟩=>?_
    subst e9
    exact again I9 hm w8
 exact codeAny_compStart_list (loop _) (T.self _ 0 _ _ _ st1 (loop _))
theorem M7 {X:Cx} {tg elt iter:Expr} {ifs:List Expr} {scope:Scope} {pos:Pos} {N:List Str} {k:Nat} {ix:List Nat} {wi:TI} {g:TG} {tc:TT} {te:TE}
  (hc:X.calm=true) (hi:PI X tg iter wi) (gk:GK k g)
  (hk:scope.kind=.function) (hcell:∀ y∈scope.names,y.2≠.cell) (hnames:∀ y∈scope.names,y.2=.local->scope.names.lookup y.1=some .local)
  (hfree:∀ y∈scope.names,y.2=.free->X.env.kindOf y.1=some .cell\/X.env.kindOf y.1=some .free)
  (hone:∀ y∈scope.names,y.2=.free->scope.names.lookup y.1=some .free)
  (hN:∀ (j:Nat) x,N[k + j]?=some x->∃ i,ix[j]?=some i/\X.N[i]?=some x)
  (hcap:∀ (j:Nat) x,N[k + j]?=some x->scope.names.lookup x=some .free)
  (hlen:N.length=k + ix.length)
  (hg:∀ cl C s H fp,PG (eB X N scope cl C s H fp) tg g)
  (hif:∀ cl C s H fp,Eh (eB X N scope cl C s H fp) ifs tc)
  (he:∀ cl C s H fp,PE (eB X N scope cl C s H fp) elt te)
  (hs:∀ x,foldedSetIterable iter X.env x=pure x:=by intro _;rfl) :
  PE X (.ListComp elt [⟨tg,iter,ifs,0⟩] scope pos) (BV k ix wi g tc te):=by
 intro pins s σ H Q I h
 rw [eval_ListComp]
 refine AR (use:=none) hc hi gk hk hcell hnames hfree hone hN hcap hlen hg hif he hs I h fun D C H3 s4 I4 ⟨m,hn⟩ _ _ _ _ _ fin q=>?_
 exact ⟨m,hn,fun h' sb=>⟨.ref D,H3,fin h' sb,rfl,q⟩⟩
theorem Np {X:Cx} {tg elt iter:Expr} {ifs:List Expr} {scope:Scope} {pos spos py:Pos} {N:List Str} {k:Nat} {ix:List Nat} {wi:TI} {g:TG} {tc:TT} {te:TE} {i:Nat} {y:Str}
  (hc:X.calm=true) (hi:PI X tg iter wi) (gk:GK k g)
  (hk:scope.kind=.function) (hcell:∀ y∈scope.names,y.2≠.cell) (hnames:∀ y∈scope.names,y.2=.local->scope.names.lookup y.1=some .local)
  (hfree:∀ y∈scope.names,y.2=.free->X.env.kindOf y.1=some .cell\/X.env.kindOf y.1=some .free)
  (hone:∀ y∈scope.names,y.2=.free->scope.names.lookup y.1=some .free)
  (hN:∀ (j:Nat) x,N[k + j]?=some x->∃ i,ix[j]?=some i/\X.N[i]?=some x)
  (hcap:∀ (j:Nat) x,N[k + j]?=some x->scope.names.lookup x=some .free)
  (hlen:N.length=k + ix.length)
  (hg:∀ cl C s H fp,PG (eB X N scope cl C s H fp) tg g)
  (hif:∀ cl C s H fp,Eh (eB X N scope cl C s H fp) ifs tc)
  (he:∀ cl C s H fp,PE (eB X N scope cl C s H fp) elt te)
  (hs:∀ x,foldedSetIterable iter X.env x=pure x) (hsw:swapsWith (.ListComp elt [⟨tg,iter,ifs,0⟩] scope pos) (some (.Name y py)) spos.line X.env=pure true)
  (hNd:X.N.Nodup) (hiy:X.N[i]?=some y) (hy:Loc X.env.scope y) (hf:X.fn y=true\/X.env.scope.names.lookup y=some .local) :
  PS X (.Assign [.Name y py] (.ListComp elt [⟨tg,iter,ifs,0⟩] scope pos) spos) (Fn (BV k ix wi g tc te) (sT i)):=by
 intro pins s σ H D I h
 rw [exec_Assign_Name_used _ _ _ _ hsw]
 refine wpAny_bind (wpAny_standAt (wpAny_bind ?_))
 show wpAny _ X.A (do let _ <- comprehension (.ListComp elt [⟨tg,iter,ifs,0⟩] scope pos) scope X.env _ (newList []) false (eval iter X.env) (some (assign (.Name y py) X.env))) _ _ s
 refine wpAny_bind (wpAny_mono (AR (use:=some (assign (.Name y py) X.env)) (QQ:=fun _ s'=>SP X pins D .next s') hc hi gk hk hcell hnames hfree hone hN hcap hlen hg hif he hs I h fun A C H3 s4 I4 hn nC nL sC cC pC fin q=>?_) (fun _ s' hq=>wpAny_pure (wpAny_pure hq)) fun _ _ e=>e)
 show wpAny _ X.A (assign (.Name y py) X.env (.ref A)) _ _ _
 refine wpAny_assign_Name (Bg (i:=i) (v:=.ref A) I4 hNd hiy hy rfl (fun s5 I5 ⟨a,sb,ha⟩=>?_) hf)
 obtain ⟨m,hn⟩:=hn
 have aC:C≠a:=by
  rcases ha with z | z
  ·rw [z];exact nL
  ·exact fun e=>cC y a z e.symm
 refine ⟨m,hn.at' fun o e=>sb.extBut C o aC e,fun h' sb'=>?_⟩
 exact ⟨_,H3,I5.turned (t':=s5.toks) (fun b o hb e=>sb'.extBut b o hb e) nC nL (.inr sC) cC pC,q⟩
section
variable {X:Cx}
theorem Ot:dA X (binaryOp .Add) (FQ X.K):=by
 intro pins s σ H x y v u Q I rx ry h
 obtain ⟨l,b,xs,zs,rfl,rfl,hH,hB,hz,q⟩:=h
 cases rx
 cases ry
 obtain ⟨its,r,p,hl⟩:=I.list hH
 obtain ⟨its2,r2,p2,hl2⟩:=I.list hB
 obtain ⟨⟨cls,dd,data,sl⟩,n,ho,hc,_,hd⟩:=p
 obtain ⟨⟨cls2,dd2,data2,sl2⟩,n2,ho2,hc2,_,hd2⟩:=p2
 simp only at hc hd hc2 hd2
 subst hc hd hc2 hd2
 have q1:=r.length
 have q2:=r2.length
 have e:its.toArray++its2.toArray=(its++its2).toArray:=by simp
 refine concat_meets ⟨_,ho,rfl⟩ ⟨_,ho2,rfl⟩ noFill_list_add seq_list_add PySem.F.slot_list_add PySem.F.entry_list_add (PySem.F.args_list_add_2 _ _) (list_addW l b its.toArray its2.toArray n n2 dd dd2 sl sl2 (by rw [List.size_toArray,List.size_toArray];omega)) ⟨ho,ho2,?_⟩
 rw [e]
 exact ⟨.ref _,_,I.lnew (t':=s.toks) (r.append r2) (by rw [List.length_append];omega),rfl,q _ I.fresh⟩
theorem LB:dA X (binaryOp .Add) (B7 X.K):=by
 intro pins s σ H x y v u Q I rx ry h
 obtain ⟨a,b,xs,ys,rfl,rfl,ha,hb,hz,q0,q1,q2⟩:=h
 by_cases hx:xs=[]
 ·cases rx
  cases ry
  obtain ⟨its,r1,p1,_⟩:=I.tuple ha
  obtain ⟨its2,r2,p2,_⟩:=I.tuple hb
  obtain ⟨⟨cls,dd,data,sl⟩,ho,hc,n,hd⟩:=p1
  obtain ⟨⟨cls2,dd2,data2,sl2⟩,ho2,hc2,n2,hd2⟩:=p2
  simp only at hc hd hc2 hd2
  subst hc hd hc2 hd2
  have e:its=[]:=r1.nil_iff.mpr hx
  exact concat_meets ⟨_,ho,rfl⟩ ⟨_,ho2,rfl⟩ noFill_tuple_add seq_tuple_add PySem.F.slot_tuple_add PySem.F.entry_tuple_add (PySem.F.args_tuple_add_2 _ _) (tuple_addW0 a b its.toArray its2.toArray n n2 dd dd2 sl sl2 (by rw [e];rfl)) ⟨ho,ho2,.ref b,H,I,rfl,q0 hx⟩
 ·exact OE pins s σ H _ _ v u Q I rx ry ⟨a,b,xs,ys,rfl,rfl,ha,hb,hx,hz,q1 hx,q2 hx⟩
theorem Qf:wN X (fun x lo hi H Q=>∃ z:Str,x=.str z/\z.length<=sizeLine/\Q (.str (Txt.slice z lo hi)) H):=by
 intro pins s σ H x v vl vu lo hi sl Q I rx hs pl pu h
 obtain ⟨z,rfl,hz,q⟩:=h
 obtain ⟨t,rfl⟩:=rx
 refine ⟨"str",_,F.slot_str_getitem.lookup,typeIs_str _ _ _,?_⟩
 have fin:∀ t' k,EP X pins σ Q (.str (Txt.slice z lo hi) t') { s with toks:=k }:=fun t' k=>⟨.str (Txt.slice z lo hi),H,I.tok k,⟨t',rfl⟩,q⟩
 cases pl with
 | none=>cases pu with
  | none=>exact wpAny_getItem_str_slice (l:=none) (u:=none) (st:=none) hs rfl (post_val_or_str ⟨Nat.le_trans (Txt.slice_le z _ _) hz,fun t' k=>fin t' k⟩)
  | int j uj=>exact wpAny_getItem_str_slice (l:=none) (u:=some (j,uj)) (st:=none) hs rfl (post_val_or_str ⟨Nat.le_trans (Txt.slice_le z _ _) hz,fun t' k=>fin t' k⟩)
 | int i ui=>cases pu with
  | none=>exact wpAny_getItem_str_slice (l:=some (i,ui)) (u:=none) (st:=none) hs rfl (post_val_or_str ⟨Nat.le_trans (Txt.slice_le z _ _) hz,fun t' k=>fin t' k⟩)
  | int j uj=>exact wpAny_getItem_str_slice (l:=some (i,ui)) (u:=some (j,uj)) (st:=none) hs rfl (post_val_or_str ⟨Nat.le_trans (Txt.slice_le z _ _) hz,fun t' k=>fin t' k⟩)
theorem Pw:wN X (PU X.K):=MG.or (Qy.or Qf)
end
end U2
namespace U2
open PySem PySem.Spec PyProof.Rows L2
structure Dat where
 prog:Program
 w:World
 K:PySem.W.Frag
 mg:Str->Option Value
 base:Heap
 N:List Str
 sc:Scope
 k:Nat
 fn:Bool
 cod:Value:=.none
 qual:Str:=""
structure lU (D:Dat) (X:Cx):Prop where
 prog:X.prog=D.prog
 w:X.w=D.w
 K:X.K=D.K
 mg:X.mg=D.mg
 base:X.base=D.base
 N:X.N=D.N
 sc:X.env.scope=D.sc
 room:dC D.k X.A
 calm:X.calm=true
 xe:X.xe=fun _ _=>False
 fn:D.fn=true->∀ x,X.fn x=true
 cod:D.cod≠.none->X.env.code=D.cod/\X.env.qual=D.qual
 dl:D.fn=true->X.ex=[]/\X.stack=X.env :: X.outer/\X.env.frame=some X.env.locals
def aY (D:Dat) (e:Expr) (t':UE):Prop:=∃ t,(∀ X,lU D X->PE X e t)/\bS D.K t t'
def q8 (D:Dat) (e:Expr) (t':UT):Prop:=∃ t,(∀ X,lU D X->PT X e t)/\kK D.K t t'
def lW (D:Dat) (e:Expr) (t':UT):Prop:=∃ t,(∀ X,lU D X->PW X e t)/\kK D.K t t'
def kQ (D:Dat) (es:List Expr) (t':UA):Prop:=∃ t,(∀ X,lU D X->PA X es t)/\jK D.K t t'
def rO (D:Dat) (s:Stmt) (t':US):Prop:=∃ t,(∀ X,lU D X->PS X s t)/\lM D.K t t'
def mS (D:Dat) (s:List Stmt) (t':US):Prop:=∃ t,(∀ X,lU D X->qK X s t)/\lM D.K t t'
def ER (D:Dat) (k:Nat) (e:Expr) (g':UG):Prop:=∃ g,(∀ X,lU D X->PG X e g)/\xN D.K g g'/\GK k g/\∀ x σ H Q Q',(∀ σ2 H2,Q σ2 H2->Q' σ2 H2)->g x σ H Q->g x σ H Q'
def F1 (D:Dat) (k:Nat) (es:List Expr) (g':xZ):Prop:=∃ g,(∀ X,lU D X->Je X es g)/\yY D.K g g'/\IM k g/\∀ x σ H Q Q',(∀ σ2 H2,Q σ2 H2->Q' σ2 H2)->g x σ H Q->g x σ H Q'
def uW (D:Dat) (tg e:Expr) (t':UI):Prop:=∃ t,(∀ X,lU D X->PI X tg e t)/\pW D.K t t'
def Mm (D:Dat) (e:Option Expr) (t':UO):Prop:=∃ t,(∀ X,lU D X->PO X e t)/\Co D.K t t'
def Fj (D:Dat) (es:List Expr) (t':UT):Prop:=∃ t,(∀ X,lU D X->Eh X es t)/\kK D.K t t'
section
variable {D:Dat} {a b c e o:Expr} {ta tb tc te:UE} {pos:Pos}
theorem uv (i:Nat) {x:Str} (hN:D.N[i]?=some x:=by rfl) (hv:El D.sc x:=by first | exact Or.inl rfl | exact Or.inr (Or.inl rfl) | exact Or.inr (Or.inr rfl)) (hd:(x == ("__debug__":Str))=false:=by decide)
  (hcd:(x == ("__classdict__":Str))=false:=by decide):aY D (.Name x pos) (oU i) :=
 ⟨_,fun X h=>Hq (by rw [h.N];exact hN) (by rw [h.sc];exact hv) hd hcd,Ek i⟩
theorem aP {i j}:aY D (.Constant (.int i) j pos) (uC (.int i)):=⟨_,fun X h=>Pq,Oj⟩
theorem Me {i j}:aY D (.Constant (.bool i) j pos) (uC (.bl i)):=⟨_,fun X h=>Q6,QD⟩
theorem fV {i j}:aY D (.Constant (.str i) j pos) (uC (.str i)):=⟨_,fun X h=>Pu,N9⟩
theorem jO {j}:aY D (.Constant .none j pos) (uC .non):=⟨_,fun X h=>Qu,MF⟩
theorem xX {x:Str} {f:Addr} (hm:D.mg x=some (.ref f)) (hg:D.sc.names.lookup x=some .globalImplicit:=by rfl) (hd:(x == ("__debug__":Str))=false:=by decide):aY D (.Name x pos) (uC (.ref f)) :=
 ⟨_,fun X h=>My (v:=.ref f) (by show X.env.scope.names.lookup x=_;rw [h.sc];exact hg) (by rw [h.mg];exact hm) rfl hd,Nv⟩
theorem sS {op:Operator} {r:R2} {r':dQ} (ho:∀ X,lU D X->dA X (binaryOp op) r) (hr:dJ D.K r r') (ha:aY D a ta) (hb:aY D b tb):aY D (.BinOp a op b pos) (mG r' ta tb):=by
 obtain ⟨x,p,s⟩:=ha;obtain ⟨y,q,r⟩:=hb
 exact ⟨_,fun X h=>Rb (ho X h) (p X h) (q X h),uD hr s r⟩
theorem gG (ha:aY D a ta) (hb:aY D b tb):aY D (.BinOp a .Sub b pos) (mG (tT fun i j=>.int (i - j)) ta tb):=sS (fun _ _=>OT) C7 ha hb
theorem qY (ha:aY D a ta) (hb:aY D b tb):aY D (.BinOp a .Mod b pos) (mG (uI (fun _ j=>0 < j) fun i j=>.int (i % j)) ta tb):=sS (fun _ _=>Pb) qN ha hb
theorem xQ (ha:aY D a ta) (hb:aY D b tb):aY D (.BinOp a .Pow b pos) (mG (uI OZ fun i j=>.int (i ^ j.toNat)) ta tb):=sS (fun _ _=>Ql) qN ha hb
def xB (o:Bool):dQ:=fun x y M Q=>match x,y with
 | .int i,.int j=>Q (.int (i + j)) M
 | .str i,.str j=>i.length + j.length<=sizeLine/\Q (.str (i++j)) M
 | .tup us,.tup ws=>us.length + ws.length<=sizeLine/\Q (.tup (us++ws)) M
 | x,y=>sE o x y M Q
def Mw (K:PySem.W.Frag):R2:=fun x y H Q=>tO (fun i j=>.int (i + j)) x y H Q\/((∃ i j,x=.str i/\y=.str j/\i.length + j.length<=sizeLine/\Q (.str (i++j)) H)\/(B7 K x y H Q\/FQ K x y H Q))
theorem NY {K:PySem.W.Frag} {o:Bool}:dJ K (Mw K) (xB o):=fun x y u w H M Q' rm ru rw h Q c=>by
 unfold xB at h
 split at h
 ·exact .inl (C7 x y _ _ H M Q' rm ru rw h Q c)
 ·exact .inr (.inl (Kl x y _ _ H M Q' rm ru rw h Q c))
 ·exact .inr (.inr (.inl (Kn x y _ _ H M Q' rm ru rw h Q c)))
 ·exact .inr (.inr (.inr (K0 x y _ _ H M Q' rm ru rw h Q c)))
theorem cG (own:Bool:=false) (ha:aY D a ta) (hb:aY D b tb):aY D (.BinOp a .Add b pos) (mG (xB own) ta tb) :=
 sS (r:=Mw D.K) (fun X h=>by have:=QH.or (GL.or ((LB (X:=X)).or (Ot (X:=X))));rw [h.K] at this;exact this) NY ha hb
theorem Qv {op:CmpOp} {r:R2} {r':dQ} (ho:∀ X,lU D X->dA X (compareOp op) r) (hr:dJ D.K r r') (ha:aY D a ta) (hb:aY D b tb) (hm:behindInMarks op b=false):aY D (.Compare a [op] [b] pos) (mG r' ta tb):=by
 obtain ⟨x,p,s⟩:=ha;obtain ⟨y,q,r⟩:=hb
 exact ⟨_,fun X h=>Nb (ho X h) (p X h) (q X h) hm,uD hr s r⟩
theorem Qc {op:CmpOp} {r:R2} {r':dQ} (ho:∀ X,lU D X->dA X (compareOp op) r) (hr:dJ D.K r r') (ha:aY D a ta) (hb:aY D b tb) (hm:behindInMarks op b=false):q8 D (.Compare a [op] [b] pos) (sX (mG r' ta tb)):=by
 obtain ⟨x,p,s⟩:=ha;obtain ⟨y,q,r⟩:=hb
 exact ⟨_,fun X h=>NF (ho X h) (p X h) (q X h) hm,KP (uD hr s r)⟩
abbrev L0:dQ:=tT fun i j=>.bl (decide (i < j))
abbrev Hi:dQ:=tT fun i j=>.bl (decide (i<=j))
abbrev Iq:dQ:=tT fun i j=>.bl (decide (j < i))
abbrev IG:dQ:=tT fun i j=>.bl (decide (j<=i))
structure oH (D:Dat) (op:CmpOp) (r':dQ):Prop where
 ex:∃ r:R2,(∀ X,lU D X->dA X (compareOp op) r)/\dJ D.K r r'
theorem Pd:oH D .LtE Hi:=⟨⟨_,fun _ _=>QV,qC⟩⟩
theorem Lh:oH D .Gt Iq:=⟨⟨_,fun _ _=>Rg,qC⟩⟩
theorem RS:oH D .GtE IG:=⟨⟨_,fun _ _=>QR,qC⟩⟩
theorem GW:oH D .Is xF:=⟨⟨_,fun _ _=>P7,NH⟩⟩
theorem oG:oH D .IsNot tD:=⟨⟨_,fun _ _=>NB,Kz⟩⟩
def Gn (neg:Bool):dQ:=fun x y M Q=>match x,y with
 | .str i,.str j=>Q (.bl (if neg then !(!(Builtin.Str.occurrences j i 0 j.length 1).isEmpty) else !(Builtin.Str.occurrences j i 0 j.length 1).isEmpty)) M
 | _,_=>False
theorem KD {op:CmpOp} {r':dQ} (k:oH D op r') (ha:aY D a ta) (hb:aY D b tb) (hm:behindInMarks op b=false:=by first | exact Hu _ | with_unfolding_all rfl):aY D (.Compare a [op] [b] pos) (mG r' ta tb) :=
 let ⟨_,h1,h2⟩:=k.ex;Qv h1 h2 ha hb hm
theorem bW {op:CmpOp} {r':dQ} (k:oH D op r') (ha:aY D a ta) (hb:aY D b tb) (hm:behindInMarks op b=false:=by first | exact Hu _ | with_unfolding_all rfl):q8 D (.Compare a [op] [b] pos) (sX (mG r' ta tb)) :=
 let ⟨_,h1,h2⟩:=k.ex;Qc h1 h2 ha hb hm
theorem Rv {op op':CmpOp} {r r':dQ} (k:oH D op r) (k':oH D op' r') (ha:aY D a ta) (hb:aY D b tb) (hc:aY D c tc) (hm:lastMarks [op,op'] [b,c]=false:=by with_unfolding_all rfl) :
  aY D (.Compare a [op,op'] [b,c] pos) (qX r r' ta tb tc):=by
 obtain ⟨x,p,s⟩:=ha;obtain ⟨y,q,r⟩:=hb;obtain ⟨z,u,v⟩:=hc
 obtain ⟨_,h1,h2⟩:=k.ex
 obtain ⟨_,h3,h4⟩:=k'.ex
 exact ⟨_,fun X h=>KH (h1 X h) (h3 X h) (p X h) (q X h) (u X h) hm,Hl h2 h4 s r v⟩
theorem CK (ha:aY D a ta) (he:∀ env whole,isTrue a env whole=(do let v <- whole;standAt a.pos;holding [v] (truthy v)):=by intro _ _;rfl):q8 D a (Ap ta):=by
 obtain ⟨x,p,s⟩:=ha
 refine ⟨_,fun X h=>?_,Oe s⟩
 have:=K9 (p X h) (he X.env)
 rw [h.K] at this
 exact this
theorem lW.pt {t:UT} (h:lW D a t):q8 D a t:=let ⟨_,p,s⟩:=h;⟨_,fun X h=>(p X h).pt,s⟩
variable {rest:List Expr} {tA tB':UT}
theorem lV (ha:q8 D a tA):lW D (.BoolOp .And [a] pos) tA:=let ⟨_,p,s⟩:=ha;⟨_,fun X h=>Oi (p X h),s⟩
theorem yK (ha:q8 D a tA):lW D (.BoolOp .Or [a] pos) tA:=let ⟨_,p,s⟩:=ha;⟨_,fun X h=>PH (p X h),s⟩
theorem mZ (ha:q8 D a tA) (hb:lW D (.BoolOp .And (b :: rest) pos) tB'):lW D (.BoolOp .And (a :: b :: rest) pos) (zY tA tB'):=let ⟨_,p,s⟩:=ha;let ⟨_,q,r⟩:=hb;⟨_,fun X h=>PQ (p X h) (q X h),M8 s r⟩
theorem BL (ha:q8 D a tA) (hb:lW D (.BoolOp .Or (b :: rest) pos) tB'):lW D (.BoolOp .Or (a :: b :: rest) pos) (EI tA tB'):=let ⟨_,p,s⟩:=ha;let ⟨_,q,r⟩:=hb;⟨_,fun X h=>QS (p X h) (q X h),QA s r⟩
theorem OM (ha:q8 D a tA):q8 D (.UnaryOp .Not a pos) (Az tA):=let ⟨_,p,s⟩:=ha;⟨_,fun X h=>QE (p X h),Nr s⟩
theorem Qk {op} (ha:aY D a ta):aY D (.BoolOp op [a] pos) ta:=let ⟨_,p,s⟩:=ha;⟨_,fun X h=>Pf (p X h),s⟩
theorem Qp (ha:aY D a ta) (hb:aY D (.BoolOp .And (b :: rest) pos) tb):aY D (.BoolOp .And (a :: b :: rest) pos) (vN ta tb):=let ⟨_,p,s⟩:=ha;let ⟨_,q,r⟩:=hb;⟨_,fun X h=>PZ (p X h) (q X h),J1 s r⟩
theorem BN (hc:q8 D c tA) (ha:aY D a ta) (hb:aY D b tb):aY D (.IfExp c a b pos) (Es tA ta tb):=let ⟨_,p,s⟩:=ha;let ⟨_,q,r⟩:=hb;let ⟨_,u,v⟩:=hc;⟨_,fun X h=>Ld (u X h) (p X h) (q X h),Ph v s r⟩
variable {es:List Expr} {tas:UA}
theorem aB:kQ D [] uZ:=⟨_,fun X h=>OK,MP⟩
theorem aA (ha:aY D e te) (hr:kQ D es tas) (hs:∀ env,starEach (e :: es) env=(false,eval e env) :: starEach es env:=by intro _;rfl):kQ D (e :: es) (n6 te tas):=let ⟨_,p,s⟩:=ha;let ⟨_,q,r⟩:=hr;⟨_,fun X h=>Om (p X h) (q X h) (hs _),JK s r⟩
theorem bZ {x1} (h:kQ D es tas):aY D (.Tuple es x1 pos) (Ab tas):=let ⟨_,p,s⟩:=h;⟨_,fun X h=>QM (p X h),M9 s⟩
theorem cF (own:Bool:=false) (h:kQ D es tas):aY D (.List es pos) (Ax own tas):=let ⟨_,p,s⟩:=h;⟨_,fun X h=>Pz (p X h),MU s⟩
theorem aQ (ha:aY D a ta) (hb:aY D b tb) (hs:Ez b:=by intro _ _;rfl):aY D (.Subscript a b pos) (mG Cn ta tb):=by
 obtain ⟨x,p,s⟩:=ha;obtain ⟨y,q,r⟩:=hb
 refine ⟨_,fun X h=>?_,uD Qb s r⟩
 have:=Ru (pos:=pos) QL (p X h) (q X h) hs
 rw [h.K] at this
 exact this
theorem pK:Mm D none pI:=⟨_,fun X h=>Oo,F7⟩
theorem pG (h:aY D e te):Mm D (some e) (vU te):=let ⟨_,p,s⟩:=h;⟨_,fun X h=>MH (p X h),Lz s⟩
variable {st:Stmt} {sts body body2:List Stmt} {t u:US}
theorem bQ:mS D [] cA:=⟨_,fun X h=>MI,KZ⟩
theorem aE (h1:rO D st t) (h2:mS D sts u):mS D (st :: sts) (xH t u):=let ⟨_,p,s⟩:=h1;let ⟨_,q,r⟩:=h2;⟨_,fun X h=>K3 (p X h) (q X h),Oh s r⟩
theorem aL (h1:rO D st t):mS D [st] t:=let ⟨_,p,s⟩:=h1;⟨_,fun X h=>ML (p X h),s⟩
theorem fA (he:aY D e te) (hs:∀ env,swapsWith e none pos.line env=pure false:=by intro _;rfl):rO D (.Expr e pos) (fM te):=let ⟨_,p,s⟩:=he;⟨_,fun X h=>Od (p X h) (hs _),Kp s⟩
theorem bD (he:aY D e te):rO D (.Return (some e) pos) (bV te):=let ⟨_,p,s⟩:=he;⟨_,fun X h=>O3 (p X h),Oq s⟩
theorem cM {c:Expr} {tc:UT} (hc:q8 D c tc) (ha:mS D body t) (hb:mS D body2 u):rO D (.If c body body2 pos) (xE tc t u):=let ⟨_,p,s⟩:=ha;let ⟨_,q,r⟩:=hb;let ⟨_,x,y⟩:=hc;⟨_,fun X h=>Rm (x X h) (p X h) (q X h),Oz y s r⟩
variable {k:Nat} {g:UG} {gs:xZ}
theorem aU (i:Nat) {x:Str} (hN:D.N.Nodup) (hi:D.N[i]?=some x:=by rfl) (hx:Loc D.sc x:=by first | exact Or.inl rfl | exact Or.inr rfl) (hik:i < k:=by decide) (hf:D.fn=true\/D.sc.names.lookup x=some .local:=by first | exact .inl rfl | exact .inr rfl):ER D k (.Name x pos) (hName i) :=
 ⟨_,fun X h=>Oc (i:=i) (by rw [h.N];exact hN) (by rw [h.N];exact hi) (by rw [h.sc];exact hx) (by rcases hf with z | z;exact .inl (h.fn z x);exact .inr (by rw [h.sc];exact z)),uE i,Nt hik,O4⟩
theorem iQ:F1 D k [] kM:=⟨_,fun X h=>Nu,J8,PC,QP⟩
theorem bN (h1:ER D k e g) (h2:F1 D k es gs) (hs:∀ env,(assignEach (e :: es) env).map (·.2)=assign e env :: (assignEach es env).map (·.2):=by intro _;rfl):F1 D k (e :: es) (iD g gs) :=
 let ⟨_,p,s,x,y⟩:=h1;let ⟨_,q,r,z,w⟩:=h2;⟨_,fun X h=>JD (p X h) (q X h) (hs _),Jl s r,Ou x z w y,Qi y w⟩
theorem jV {kk:Nat} {n:Nat} (h:F1 D k es gs) (hn:∀ env,(assignEach es env).length=n:=by intro _;rfl) (hst:∀ env,(assignEach es env).findIdx? (·.1)=none:=by intro _;rfl):ER D k (.Tuple es kk pos) (i5 n gs):=by
 obtain ⟨_,p,s,x,y⟩:=h
 refine ⟨_,fun X h=>?_,LF s,Qe x,Rh y⟩
 have:=Qr (pos:=pos) (k:=kk) h.calm (p X h) (hn _) (hst _)
 rw [h.K] at this
 exact this
theorem aS (i:Nat) {x:Str} {pos':Pos} (hN:D.N.Nodup) (he:aY D e te) (hi:D.N[i]?=some x:=by rfl) (hx:Loc D.sc x:=by first | exact Or.inl rfl | exact Or.inr rfl) (hs:∀ env,swapsWith e (some (.Name x pos')) pos.line env=pure false:=by intro _;rfl)
  (hf:D.fn=true\/D.sc.names.lookup x=some .local:=by first | exact .inl rfl | exact .inr rfl):rO D (.Assign [.Name x pos'] e pos) (bC te (hName i)):=by
 obtain ⟨_,p,s⟩:=he
 exact ⟨_,fun X h=>Pc (i:=i) (by rw [h.N];exact hN) (by rw [h.N];exact hi) (by rw [h.sc];exact hx) (p X h) (hs _) (by rcases hf with z | z;exact .inl (h.fn z x);exact .inr (by rw [h.sc];exact z)),ES s (uE i)⟩
variable {tg iter:Expr} {wi:UI}
theorem dS (h:aY D e te):uW D tg e (tF te):=by
 obtain ⟨_,p,s⟩:=h
 refine ⟨_,fun X h=>?_,J2 s⟩
 have:=Qw (tg:=tg) (p X h)
 rw [h.K] at this
 exact this
theorem nO {p:Pos} {ta:UA} (hm:D.mg "range"=none) (ha:kQ D [a] ta) (hg:D.sc.names.lookup ("range":Str)=some .globalImplicit:=by rfl) (hs:∀ env,starEach [a] env=[(false,eval a env)]:=by intro _;rfl):uW D tg (.Call (.Name "range" p) [a] [] pos) (vY ta):=by
 obtain ⟨_,q,s⟩:=ha
 exact ⟨_,fun X h=>Iv (by show X.env.scope.names.lookup _=_;rw [h.sc];exact hg) (by rw [h.mg];exact hm) (q X h) (hs _),Kg s⟩
theorem dW (hi:uW D tg iter wi) (hg:ER D k tg g) (hb:mS D body t) (hs:∀ env x,foldedSetIterable iter env x=pure x:=by intro _ _;rfl):rO D (.For tg iter body [] pos) (Cq wi g t):=by
 obtain ⟨_,p,s⟩:=hi;obtain ⟨_,q,r,_⟩:=hg;obtain ⟨_,x,y⟩:=hb
 exact ⟨_,fun X h=>Qo (by rw [h.xe];exact PassesOwn.never) h.calm (p X h) (q X h) (x X h) (hs _),Nl s r y⟩
end
end U2
namespace U2
open PySem PySem.Spec PyProof.Rows L2
structure Callee (P:Program) (w:World) (K:PySem.W.Frag) (mg:Str->Option Value) (base:Heap) (j:Nat) (x:Str) (sp:bG) (dus:List U):Prop where
 ex:∃ f fd ps dvs ds,fF P w K mg base kP j f fd ps (cL K sp)/\mg x=some (.ref f)/\PySem.W.keepIn K (.ref f)=true/\Binds K fd ps ds/\Vals dvs ds/\∀ H M,aJ K H M dus dvs
abbrev So (D:Dat):=Callee D.prog D.w D.K D.mg D.base
section
variable {D:Dat} {a b c e o:Expr} {ta tb tc te:UE} {pos p:Pos} {es:List Expr} {tas:UA} {x:Str}
theorem aK {sp:bG} {dus:List U} {j:Nat} (F:So D j x sp dus) (ha:kQ D (e :: es) tas) (hj:j<=D.k:=by first | exact Nat.le_refl _ | (dsimp only;omega) | omega | (dsimp only [bR];omega)) (hg:D.sc.names.lookup x=some .globalImplicit:=by rfl) (hdb:(x == ("__debug__":Str))=false:=by decide)
  (he:∀ env,starEach (e :: es) env=(false,eval e env) :: starEach es env:=by intro _;rfl) (hpl:∀ env,(backTo pos (starEach es env)).any (·.1)=false:=by intro _;rfl):aY D (.Call (.Name x p) (e :: es) [] pos) (qB sp dus tas):=by
 obtain ⟨f,fd,ps,dvs,ds,F,hm,kp,hb,hd,hr⟩:=F.ex
 obtain ⟨_,q,s⟩:=ha
 refine ⟨GJ (cL D.K sp) dvs E0 _,fun X h=>?_,Kk hr s⟩
 have F':fF X.prog X.w X.K X.mg X.base kP j f fd ps (cL D.K sp):=by rw [h.prog,h.w,h.K,h.mg,h.base];exact F
 exact Ol F' (h.room.mono hj) (by show X.env.scope.names.lookup x=_;rw [h.sc];exact hg) (by rw [h.mg];exact hm) (by rw [h.K];exact kp) (by rw [h.K];exact hb) hd yD (q X h) hdb (he _) (hpl _)
structure A5 (D:Dat) (f:Value) (r':List U->aF->UK->Prop):Prop where
 ex:∃ r,(∀ X,lU D X->jN X f r)/\vQ D.K r r'
theorem dX {id:String} {r':List U->aF->UK->Prop} (k:A5 D (.builtin id) r') (hm:D.mg x=none) (ha:kQ D (e :: es) tas) (hv:bootBuiltins x=some (.builtin id):=by kernel_rfl) (hg:D.sc.names.lookup x=some .globalImplicit:=by rfl) (hn:x≠"__name__":=by decide) (hdb:(x == ("__debug__":Str))=false:=by decide)
  (he:∀ env,starEach (e :: es) env=(false,eval e env) :: starEach es env:=by intro _;rfl) (hpl:∀ env,(backTo pos (starEach es env)).any (·.1)=false:=by intro _;rfl):aY D (.Call (.Name x p) (e :: es) [] pos) (CQ r' tas):=by
 obtain ⟨r,h1,h2⟩:=k.ex
 obtain ⟨_,q,s⟩:=ha
 exact ⟨_,fun X h=>Lq (h1 X h) (by show X.env.scope.names.lookup x=_;rw [h.sc];exact hg) (by rw [h.mg];exact hm) hv (q X h) hn hdb (he _) (hpl _),IB h2 s⟩
theorem sG {T:String} {r':List U->aF->UK->Prop} (k:A5 D (.type T) r') (hm:D.mg x=none) (ha:kQ D (e :: es) tas) (hv:bootBuiltins x=some (.type T):=by kernel_rfl) (hg:D.sc.names.lookup x=some .globalImplicit:=by rfl) (hn:x≠"__name__":=by decide) (hdb:(x == ("__debug__":Str))=false:=by decide)
  (he:∀ env,starEach (e :: es) env=(false,eval e env) :: starEach es env:=by intro _;rfl) (hpl:∀ env,(backTo pos (starEach es env)).any (·.1)=false:=by intro _;rfl):aY D (.Call (.Name x p) (e :: es) [] pos) (CQ r' tas):=by
 obtain ⟨r,h1,h2⟩:=k.ex
 obtain ⟨_,q,s⟩:=ha
 exact ⟨_,fun X h=>Hb (h1 X h) (by show X.env.scope.names.lookup x=_;rw [h.sc];exact hg) (by rw [h.mg];exact hm) hv (q X h) hn hdb (he _) (hpl _),IB h2 s⟩
theorem dO:A5 D (.builtin "len") w6:=⟨⟨_,fun X h=>by have:=Jz (X:=X);rw [h.K] at this;exact this,NS⟩⟩
theorem Ro:A5 D (.builtin "min") (sV fun i j=>.int (if j < i then j else i)):=⟨⟨_,fun X h=>Ja h.calm,Kj⟩⟩
theorem B9 (own:Bool:=false):A5 D (.type "list") (sP own):=⟨⟨_,fun X h=>by have:=C8 (X:=X);rw [h.K] at this;exact this,Jx⟩⟩
theorem pJ:A5 D (.type "tuple") pU:=⟨⟨_,fun X h=>by have:=Bl (X:=X);rw [h.K] at this;exact this,HL⟩⟩
def xS:List (String × String × Bool):=[("NoneType","bool",false),("NoneType","int",false),("NoneType","str",false),("NoneType","tuple",false),("NoneType","list",false),("NoneType","dict",false),("bool","bool",true),("bool","int",true),("bool","str",false),("bool","tuple",false),("bool","list",false),("bool","dict",false),("int","bool",false),("int","int",true),("int","str",false),("int","tuple",false),("int","list",false),("int","dict",false),("str","bool",false),("str","int",false),("str","str",true),("str","tuple",false),("str","list",false),("str","dict",false),("tuple","bool",false),("tuple","int",false),("tuple","str",false),("tuple","tuple",true),("tuple","list",false),("tuple","dict",false),("list","bool",false),("list","int",false),("list","str",false),("list","tuple",false),("list","list",true),("list","dict",false),("dict","bool",false),("dict","int",false),("dict","str",false),("dict","tuple",false),("dict","list",false),("dict","dict",true)]
theorem Hj {K:PySem.W.Frag}:∀ r∈xS,PySem.W.kitOne K (.type r.1) (.type r.2.1)=some r.2.2:=by
 intro r hr
 simp only [xS,List.mem_cons,List.not_mem_nil,or_false] at hr
 rcases hr with rfl | rfl | rfl | rfl | rfl | rfl | rfl | rfl | rfl | rfl | rfl | rfl | rfl | rfl | rfl | rfl | rfl | rfl | rfl | rfl | rfl | rfl | rfl | rfl | rfl | rfl | rfl | rfl | rfl | rfl | rfl | rfl | rfl | rfl | rfl | rfl | rfl | rfl | rfl | rfl | rfl | rfl <;> first | rfl | kernel_rfl
def bE (t T:String):Option Bool:=(xS.find? fun r=>r.1 == t && r.2.1 == T).map (·.2.2)
theorem RC {K:PySem.W.Frag} {t T:String} {b:Bool} (h:bE t T=some b):PySem.W.kitOne K (.type t) (.type T)=some b:=by
 unfold bE at h
 cases e:xS.find? fun r=>r.1 == t && r.2.1 == T with
 | none=>rw [e] at h;cases h
 | some r =>
  rw [e] at h
  cases h
  have h1:=List.find?_some e
  have h2:=Hj (K:=K) r (List.mem_of_find?_eq_some e)
  simp only [Bool.and_eq_true,beq_iff_eq] at h1
  rw [h1.1,h1.2] at h2
  exact h2
def BZ:List U->aF->UK->Prop:=fun us M Q=>match us with
 | [x,.ty T]=>match DC M x with
  | some t=>match bE t T with
   | some b=>Q (.bl b) M
   | none=>False
  | none=>False
 | _=>False
def Dt:List U->Option (List Bool)
 | []=>some []
 | .bl b :: r=>(Dt r).map (b :: ·)
 | _=>none
def Ff:List U->aF->UK->Prop:=fun us M Q=>match us with
 | [x]=>match view M x with
  | .lst ws=>match Dt ws with
   | some bs=>Q (.bl (bs.all fun b=>b)) M
   | none=>False
  | _=>False
 | _=>False
theorem K7 {K:PySem.W.Frag} {H:Hp} {M:aF}:∀ {us:List U} {vs:List V} {bs:List Bool},aJ K H M us vs->Dt us=some bs->vs=bs.map V.bl
 | [],_,_,r,h=>by cases h;exact r.inv_nil
 | u :: us,_,bs,r,h=>by
  obtain ⟨v,vs',rfl,a,b⟩:=r.inv_cons
  cases u with
  | bl y =>
   simp only [Dt] at h
   cases e:Dt us with
   | none=>rw [e] at h;cases h
   | some cs =>
    rw [e] at h
    cases h
    rw [K7 b e,a.bl];rfl
  | _=>cases h
theorem jT {apos:Pos} (ho:aY D o ta) (ha:kQ D [e] tas) (hbase:∀ env,attributeBase o "append" env (eval o env)=eval o env:=by intro _;rfl)
  (hfew:∀ env,((backTo pos (starEach [e] env)).all (fun x=>!x.1) && (backToKw pos (keywordEach [] env)).all (fun x=>x.1.isSome) && decide ([e].length + ([]:List Keyword).length + (if ([]:List Keyword).isEmpty then 0 else 1) < 30))=true:=by intro _;rfl)
  (hline:(apos.endLine == pos.line)=true:=by rfl) (hs:∀ env,starEach [e] env=[(false,eval e env)]:=by intro _;rfl):aY D (.Call (.Attribute o "append" apos) [e] [] pos) (Bd nA ta tas):=by
 obtain ⟨_,p,s⟩:=ho;obtain ⟨_,q,r⟩:=ha
 refine ⟨_,fun X h=>?_,CW GF s r⟩
 have:=FR (cpos:=pos) (apos:=apos) PySem.F.plainAttrs_list PySem.F.slot_list_append PySem.F.type_list_append AX (p X h) (q X h) (hbase _) (hfew _) hline (hs _) (by rfl)
 rw [h.K] at this
 exact this
def dR (scope sc:Scope):Scope :=
 { scope with names:=scope.names.map fun (n,k)=>if (k == .free && sc.kind == .function && sc.names.lookup n == some .cell) then (n,.cell) else (n,k) }
def bR (D:Dat) (N:List Str) (scope:Scope):Dat:={ D with N:=N,sc:=dR scope D.sc,fn:=false,cod:=.none }
theorem lU.comp {X:Cx} (h:lU D X) (N:List Str) (scope:Scope) (cl:List (Str × Addr)) (C:Addr) (s:Shared) (H:Hp) (fp:List Addr):lU (bR D N scope) (eB X N scope cl C s H fp) :=
 ⟨h.prog,h.w,h.K,h.mg,h.base,rfl,by show dR scope X.env.scope=dR scope D.sc;rw [h.sc],h.room,h.calm,rfl,(fun z=>by cases z),(fun z=>absurd rfl z),(fun z=>by cases z)⟩
theorem jJ:Fj D [] (fun _ M Q=>Q true M):=⟨OQ,fun X h=>Ob,fun σ τ H M Q' rs rm q Q c=>c true M H (aR.refl _ _) rm q⟩
theorem vX {t:UT} (h:q8 D c t):Fj D [c] t:=let ⟨_,p,s⟩:=h;⟨_,fun X h=>MZ (p X h),s⟩
theorem nJ (own:Bool) (N:List Str) (k:Nat) (ix:List Nat) {scope:Scope} {tg iter elt:Expr} {ifs:List Expr} {wi:UI} {g:UG} {tcs:UT} (hi:uW D tg iter wi) (hg:ER (bR D N scope) k tg g) (hif:Fj (bR D N scope) ifs tcs) (he:aY (bR D N scope) elt te)
  (hk:scope.kind=.function:=by rfl) (hcell:∀ y∈scope.names,y.2≠.cell:=by first | decide +kernel | (dsimp only;decide +kernel) | (dsimp only [bR,dR];decide +kernel)) (hnames:∀ y∈scope.names,y.2=.local->scope.names.lookup y.1=some .local:=by first | decide +kernel | (dsimp only;decide +kernel) | (dsimp only [bR,dR];decide +kernel))
  (hfree:∀ y∈scope.names,y.2=.free->D.sc.names.lookup y.1=some .cell\/D.sc.names.lookup y.1=some .free:=by first | decide +kernel | (dsimp only;decide +kernel) | (dsimp only [bR,dR];decide +kernel)) (hone:∀ y∈scope.names,y.2=.free->scope.names.lookup y.1=some .free:=by first | decide +kernel | (dsimp only;decide +kernel) | (dsimp only [bR,dR];decide +kernel))
  (hN:ix.map (fun i=>D.N[i]?)=(N.drop k).map some:=by rfl) (hcap:∀ x∈N.drop k,scope.names.lookup x=some .free:=by first | decide +kernel | (dsimp only;decide +kernel) | (dsimp only [bR,dR];decide +kernel)) (hlen:N.length=k + ix.length:=by rfl)
  (hs:∀ env x,foldedSetIterable iter env x=pure x:=by intro _ _;rfl):aY D (.ListComp elt [⟨tg,iter,ifs,0⟩] scope pos) (tM own k ix wi g tcs te):=by
 obtain ⟨_,p1,s1⟩:=hi;obtain ⟨_,p2,s2,gk,_⟩:=hg;obtain ⟨_,p3,s3⟩:=hif;obtain ⟨_,p4,s4⟩:=he
 have hN':∀ (j:Nat) x,N[k + j]?=some x->∃ i,ix[j]?=some i/\D.N[i]?=some x:=fun j x e=>by
  have e1:((N.drop k).map some)[j]?=some (some x):=by rw [List.getElem?_map,List.getElem?_drop,e];rfl
  rw [<- hN,List.getElem?_map] at e1
  cases q:ix[j]? with
  | none=>rw [q] at e1;cases e1
  | some i=>rw [q] at e1;exact ⟨i,rfl,Option.some.inj e1⟩
 have hcap':∀ (j:Nat) x,N[k + j]?=some x->scope.names.lookup x=some .free:=fun j x e=>hcap x (List.mem_of_getElem? (i:=j) (by rw [List.getElem?_drop];exact e))
 refine ⟨_,fun X h=>M7 (N:=N) (k:=k) (ix:=ix) h.calm (p1 X h) gk hk hcell hnames (fun y hy e=>by show X.env.scope.names.lookup y.1=_\/X.env.scope.names.lookup y.1=_;rw [h.sc];exact hfree y hy e) hone (fun j x e=>by rw [h.N];exact hN' j x e) hcap' hlen
  (fun cl C s H fp=>p2 _ (h.comp N scope cl C s H fp)) (fun cl C s H fp=>p3 _ (h.comp N scope cl C s H fp)) (fun cl C s H fp=>p4 _ (h.comp N scope cl C s H fp)) (hs _),B4 s1 s2 s3 s4⟩
theorem Lm {elt:Expr} {gens:List Comprehension} {scope:Scope} {pos py:Pos} {y:Str} {line:Nat} {env:Env} (h1:env.scope.kind=.function) (h2:env.scope.names.lookup y=some .local) (h3:(py.line == pos.line && !(scope.names.any fun (n,k)=>n == y && (k == .local || k == .cell)))=true) :
  swapsWith (.ListComp elt gens scope pos) (some (.Name y py)) line env=pure true:=by
 have e1:(env.blockKind == .function)=true:=by first | (unfold Env.blockKind;rw [h1];rfl) | (unfold Env.blockKind;simp [h1])
 have e2:(env.kindOf y == some .local)=true:=by unfold Env.kindOf;rw [h2];rfl
 show pure (env.blockKind == .function && env.kindOf y == some .local && py.line == pos.line && !(scope.names.any fun (n,k)=>n == y && (k == .local || k == .cell)))=pure true
 rw [e1,e2]
 simp only [Bool.and_eq_true] at h3
 rw [h3.1,h3.2]
 rfl
theorem nB (i:Nat) {y:Str} {spos py:Pos} (hNd:D.N.Nodup) (own:Bool) (N:List Str) (k:Nat) (ix:List Nat) {scope:Scope} {tg iter elt:Expr} {ifs:List Expr} {wi:UI} {g:UG} {tcs:UT} (hi:uW D tg iter wi) (hg:ER (bR D N scope) k tg g) (hif:Fj (bR D N scope) ifs tcs) (he:aY (bR D N scope) elt te)
  (hk:scope.kind=.function:=by rfl) (hcell:∀ y∈scope.names,y.2≠.cell:=by first | decide +kernel | (dsimp only;decide +kernel) | (dsimp only [bR,dR];decide +kernel)) (hnames:∀ y∈scope.names,y.2=.local->scope.names.lookup y.1=some .local:=by first | decide +kernel | (dsimp only;decide +kernel) | (dsimp only [bR,dR];decide +kernel))
  (hfree:∀ y∈scope.names,y.2=.free->D.sc.names.lookup y.1=some .cell\/D.sc.names.lookup y.1=some .free:=by first | decide +kernel | (dsimp only;decide +kernel) | (dsimp only [bR,dR];decide +kernel)) (hone:∀ y∈scope.names,y.2=.free->scope.names.lookup y.1=some .free:=by first | decide +kernel | (dsimp only;decide +kernel) | (dsimp only [bR,dR];decide +kernel))
  (hN:ix.map (fun i=>D.N[i]?)=(N.drop k).map some:=by rfl) (hcap:∀ x∈N.drop k,scope.names.lookup x=some .free:=by first | decide +kernel | (dsimp only;decide +kernel) | (dsimp only [bR,dR];decide +kernel)) (hlen:N.length=k + ix.length:=by rfl)
  (hs:∀ env x,foldedSetIterable iter env x=pure x:=by intro _ _;rfl) (hl1:D.sc.kind=.function:=by rfl) (hl2:D.sc.names.lookup y=some .local:=by rfl) (hl3:(py.line == pos.line && !(scope.names.any fun (n,k)=>n == y && (k == .local || k == .cell)))=true:=by decide +kernel)
  (hiy:D.N[i]?=some y:=by rfl) (hy:Loc D.sc y:=by first | exact Or.inl rfl | exact Or.inr rfl) (hf:D.fn=true\/D.sc.names.lookup y=some .local:=by first | exact .inl rfl | exact .inr rfl):rO D (.Assign [.Name y py] (.ListComp elt [⟨tg,iter,ifs,0⟩] scope pos) spos) (bC (tM own k ix wi g tcs te) (hName i)):=by
 obtain ⟨_,p1,s1⟩:=hi;obtain ⟨_,p2,s2,gk,_⟩:=hg;obtain ⟨_,p3,s3⟩:=hif;obtain ⟨_,p4,s4⟩:=he
 have hN':∀ (j:Nat) x,N[k + j]?=some x->∃ i,ix[j]?=some i/\D.N[i]?=some x:=fun j x e=>by
  have e1:((N.drop k).map some)[j]?=some (some x):=by rw [List.getElem?_map,List.getElem?_drop,e];rfl
  rw [<- hN,List.getElem?_map] at e1
  cases q:ix[j]? with
  | none=>rw [q] at e1;cases e1
  | some i=>rw [q] at e1;exact ⟨i,rfl,Option.some.inj e1⟩
 have hcap':∀ (j:Nat) x,N[k + j]?=some x->scope.names.lookup x=some .free:=fun j x e=>hcap x (List.mem_of_getElem? (i:=j) (by rw [List.getElem?_drop];exact e))
 refine ⟨_,fun X h=>Np (i:=i) (N:=N) (k:=k) (ix:=ix) h.calm (p1 X h) gk hk hcell hnames (fun y hy e=>by show X.env.scope.names.lookup y.1=_\/X.env.scope.names.lookup y.1=_;rw [h.sc];exact hfree y hy e) hone (fun j x e=>by rw [h.N];exact hN' j x e) hcap' hlen
  (fun cl C s H fp=>p2 _ (h.comp N scope cl C s H fp)) (fun cl C s H fp=>p3 _ (h.comp N scope cl C s H fp)) (fun cl C s H fp=>p4 _ (h.comp N scope cl C s H fp)) (hs _) (Lm (by rw [h.sc];exact hl1) (by rw [h.sc];exact hl2) hl3) (by rw [h.N];exact hNd) (by rw [h.N];exact hiy) (by rw [h.sc];exact hy) (by rcases hf with z | z;exact .inl (h.fn z y);exact .inr (by rw [h.sc];exact z)),ES (B4 s1 s2 s3 s4) (uE i)⟩
end
section
variable {P:Program} {w:World} {K:PySem.W.Frag} {mg:Str->Option Value} {base:Heap}
theorem qH {H:Hp} {M:aF} {N:List Str} {us:List U} {vs:List V} (r:aJ K H M us vs):eJ K H M (L2.start N vs) (eS N us):=by
 have hl:=r.length
 refine ⟨by simp [L2.start,eS,hl],fun i u e=>?_⟩
 unfold eS at e
 unfold L2.start
 by_cases hi:i < us.length
 ·rw [List.getElem?_append_left (by simpa using hi),List.getElem?_map] at e
  cases q:us[i]? with
  | none=>rw [q] at e;cases e
  | some u' =>
   rw [q] at e
   cases e
   obtain ⟨v,h1,h2⟩:=r.get q
   exact ⟨v,by rw [List.getElem?_append_left (by rw [List.length_map];omega),List.getElem?_map,h1];rfl,h2⟩
 ·rw [List.getElem?_append_right (by simpa using hi),List.getElem?_replicate] at e
  split at e <;> cases e
theorem Ow {x:Str} {st:Stmt} {f:Addr} {fd:FuncData} {N ps:List Str} {k:Nat} {sp:bG} {t:US} (F:cK K x x st f fd) (S:bA N ps (aH st))
  (len:∀ us M Q,sp us M Q->us.length=ps.length)
  (h:mS ⟨P,w,K,mg,base,N,aH st,k,true,.none,""⟩ (aT st) t)
  (q:∀ us M Q,sp us M Q->t { nx:=fun _ M'=>jF Q .non M',rt:=jF Q } (eS N us) M):fF P w K mg base kP (k + 1) f fd ps (cL K sp):=by
 obtain ⟨t0,h1,h2⟩:=h
 refine F.ok S (fun vs H Q E ⟨us,M,Q',_,r,hs,_⟩=>by rw [<- r.length];exact len us M Q' hs) (fun cdv A outer s H vs Q E hr ⟨us,M,Q',rm,r,hs,c⟩=>?_)
 refine ⟨t0,h1 _ ⟨rfl,rfl,rfl,rfl,rfl,rfl,rfl,hr,rfl,rfl,fun _ _=>rfl,fun h=>absurd rfl h,fun _=>⟨rfl,rfl,rfl⟩⟩,?_⟩
 refine h2 _ (eS N us) H M _ (qH r) rm (q us M Q' hs) _ ⟨fun σ τ H1 M1 s1 rm1 rs1 q1=>?_,fun u v H1 M1 s1 rm1 ru q1=>jF.ok c s1 rm1 ru q1,fun _ _ _ _ _ _ _ z=>z.elim,fun _ _ _ _ _ _ _ z=>z.elim⟩
 exact jF.ok c s1 rm1 lN q1
theorem Hm {x:Str} {st:Stmt} {f:Addr} {fd:FuncData} {N ps:List Str} {k:Nat} {sp:bG} {t:US} (F:cK K x x st f fd) (hm:mg x=some (.ref f)) (S:bA N ps (aH st))
  (bind:∀ (kV doc pm:Value) (an:Option Addr) (cdv ct:Value) (us:List Value),us.length=ps.length->bindArgs (PySem.W.fnOf x x (aZ st) (aT st) (aH st) .none kV doc pm an cdv ct) ⟨us,[]⟩=pure (ps.zip us))
  (len:∀ us M Q,sp us M Q->us.length=ps.length)
  (h:mS ⟨P,w,K,mg,base,N,aH st,k,true,.none,""⟩ (aT st) t)
  (q:∀ us M Q,sp us M Q->t { nx:=fun _ M'=>jF Q .non M',rt:=jF Q } (eS N us) M):Callee P w K mg base (k + 1) x sp []:=by
 obtain ⟨t0,h1,h2⟩:=h
 refine ⟨f,fd,ps,[],[],F.ok S (fun vs H Q E ⟨us,M,Q',_,r,hs,_⟩=>by rw [<- r.length];exact len us M Q' hs) (fun cdv A outer s H vs Q E hr ⟨us,M,Q',rm,r,hs,c⟩=>?_),hm,F.kp,F.binds bind,.nil,fun H M=>.nil⟩
 refine ⟨t0,h1 _ ⟨rfl,rfl,rfl,rfl,rfl,rfl,rfl,hr,rfl,rfl,fun _ _=>rfl,fun h=>absurd rfl h,fun _=>⟨rfl,rfl,rfl⟩⟩,?_⟩
 refine h2 _ (eS N us) H M _ (qH r) rm (q us M Q' hs) _ ⟨fun σ τ H1 M1 s1 rm1 rs1 q1=>?_,fun u v H1 M1 s1 rm1 ru q1=>jF.ok c s1 rm1 ru q1,fun _ _ _ _ _ _ _ z=>z.elim,fun _ _ _ _ _ _ _ z=>z.elim⟩
 exact jF.ok c s1 rm1 lN q1
end
end U2
namespace U2
open PySem L2
theorem iF:bE "NoneType" "bool"=some false:=by decide +kernel
theorem i4:bE "NoneType" "int"=some false:=by decide +kernel
theorem i8:bE "NoneType" "str"=some false:=by decide +kernel
theorem gY:bE "NoneType" "tuple"=some false:=by decide +kernel
theorem h9:bE "NoneType" "list"=some false:=by decide +kernel
theorem iC:bE "NoneType" "dict"=some false:=by decide +kernel
theorem lI:bE "bool" "bool"=some true:=by decide +kernel
theorem lY:bE "bool" "int"=some true:=by decide +kernel
theorem mK:bE "bool" "str"=some false:=by decide +kernel
theorem kB:bE "bool" "tuple"=some false:=by decide +kernel
theorem kX:bE "bool" "list"=some false:=by decide +kernel
theorem lE:bE "bool" "dict"=some false:=by decide +kernel
theorem mU:bE "int" "bool"=some false:=by decide +kernel
theorem nZ:bE "int" "int"=some true:=by decide +kernel
theorem nT:bE "int" "str"=some false:=by decide +kernel
theorem kS:bE "int" "tuple"=some false:=by decide +kernel
theorem mX:bE "int" "list"=some false:=by decide +kernel
theorem mJ:bE "int" "dict"=some false:=by decide +kernel
theorem mW:bE "str" "bool"=some false:=by decide +kernel
theorem n0:bE "str" "int"=some false:=by decide +kernel
theorem nR:bE "str" "str"=some true:=by decide +kernel
theorem lA:bE "str" "tuple"=some false:=by decide +kernel
theorem mP:bE "str" "list"=some false:=by decide +kernel
theorem m4:bE "str" "dict"=some false:=by decide +kernel
theorem kF:bE "tuple" "bool"=some false:=by decide +kernel
theorem kY:bE "tuple" "int"=some false:=by decide +kernel
theorem lJ:bE "tuple" "str"=some false:=by decide +kernel
theorem jQ:bE "tuple" "tuple"=some true:=by decide +kernel
theorem kE:bE "tuple" "list"=some false:=by decide +kernel
theorem kG:bE "tuple" "dict"=some false:=by decide +kernel
theorem lD:bE "list" "bool"=some false:=by decide +kernel
theorem m5:bE "list" "int"=some false:=by decide +kernel
theorem mI:bE "list" "str"=some false:=by decide +kernel
theorem jZ:bE "list" "tuple"=some false:=by decide +kernel
theorem lF:bE "list" "list"=some true:=by decide +kernel
theorem kZ:bE "list" "dict"=some false:=by decide +kernel
theorem kT:bE "dict" "bool"=some false:=by decide +kernel
theorem mN:bE "dict" "int"=some false:=by decide +kernel
theorem mL:bE "dict" "str"=some false:=by decide +kernel
theorem kA:bE "dict" "tuple"=some false:=by decide +kernel
theorem lG:bE "dict" "list"=some false:=by decide +kernel
theorem lH:bE "dict" "dict"=some true:=by decide +kernel
theorem aW {Q:UK} {u:U} {M:aF} (q:Q u M):jF Q u M:=⟨u,M,Sub.refl M,.inl rfl,q⟩
theorem Fg {o:Bool} {k:Nat} {ix:List Nat} {wi:UI} {g:UG} {tc:UT} {te:UE} {τ:SU} {M M1:aF} {Q:UK} {S:Src} (f:U->Option U) (hw:∀ R:Src->aF->Prop,R S M1->wi τ M R) (hz:S.xs.length<=sizeLine) (hs:S.ok M1)
  (h:∀ x∈S.xs,∀ M,Sub M1 M->∀ R:Option U->aF->Prop,R (f x) M->g x (fG k ix τ) M fun τ2 M2=>tc τ2 M2 fun ok M3=>if ok=true then te τ2 M3 fun y M4=>R (some y) M4 else R none M3)
  (q:iH o (S.xs.filterMap f) M1 Q):tM o k ix wi g tc te τ M Q:=hw _ (HV (wi:=wi) f hz hs h q)
theorem eA {wi:UI} {g:UG} {tb:US} {D:qA} {τ:SU} {M M1:aF} {S:Src} (hw:∀ R:Src->aF->Prop,R S M1->wi τ M R) (P:Nat->SU->aF->Prop) (h0:P 0 τ M1) (hok:∀ i τ M,P i τ M->S.ok M)
  (turn:∀ i x τ M,S.xs[i]?=some x->P i τ M->g x τ M fun τ2 M2=>tb { D with nx:=P (i + 1),ct:=P (i + 1),bk:=D.nx } τ2 M2) (fin:∀ τ M,P S.xs.length τ M->D.nx τ M):Cq wi g tb D τ M:=hw _ ⟨P,h0,hok,turn,fin⟩
theorem iY {lo:Int} {n i:Nat} {x:U} (h:(eF lo n)[i]?=some x):x=.int (lo + i)/\i < n:=by
 have hi:i < n:=by
  have:=(List.getElem?_eq_some_iff.mp h).1
  simpa [eF] using this
 simp only [eF,List.getElem?_map,List.getElem?_range hi,Option.map_some] at h
 exact ⟨(Option.some.inj h).symm,hi⟩
theorem gX (lo:Int) (n:Nat):(eF lo n).length=n:=by simp [eF]
end U2
namespace U2
open PySem PySem.Spec PyProof.Rows L2
inductive Fl where
 | int (i:Int) | str (x:Str)
def Fl.d:Fl->PyData
 | .int i=>.int i
 | .str x=>.str x
def Fl.u:Fl->U
 | .int i=>.int i
 | .str x=>.str x
def Gb (T:List (Str × Fl)):List (PyData × PyData):=T.map fun p=>(PyData.str p.1,p.2.d)
def cH:List (Str × Fl)->Str->Option Fl
 | [],_=>none
 | (a,b) :: r,z=>if a=z then some b else cH r z
structure jP (P:Program) (w:World) (K:PySem.W.Frag) (d:Addr) (T:List (Str × Fl)):Prop where
 at_:∀ h:Heap,K.In h->StrTab P w h d (Gb T)
theorem Q5 (a b:Str):same (.str a) (.str b)=decide (a=b):=by
 by_cases h:a=b <;> simp [same,h]
theorem lookup_tab:∀ (T:List (Str × Fl)) (z:Str),PySem.Spec.lookup (.str z) (Gb T)=(cH T z).map Fl.d
 | [],_=>rfl
 | (a,b) :: r,z=>by
  have ih:=lookup_tab r z
  show (if same (.str a) (.str z)=true then some b.d else PySem.Spec.lookup (.str z) (Gb r))=((if a=z then some b else cH r z).map Fl.d)
  rw [Q5]
  by_cases e:a=z
  ·rw [if_pos (decide_eq_true e),if_pos e];rfl
  ·rw [if_neg (by simpa using e),if_neg e,ih]
def Ai (T:List (Str × Fl)):List (Str × PyData):=T.map fun p=>(p.1,p.2.d)
theorem tab_of {P:Program} {w:World} {K:PySem.W.Frag} {d:Addr} {T:List (Str × Fl)} (n:((Ai T).map (·.1)).Nodup) (e:KTD.tabLook KTD.flatLooks (fun b=>K.lookup b) d (Ai T)=true) (q:KTD.hashesOf (fun b=>K.lookup b) d=(Ai T).map fun p=>(PySem.strKind P w).hash p.1):jP P w K d T:=⟨fun h hK=>by
 have:=PySem.W.kt_tab_in P w hK e n q
 unfold Ai at this
 rw [List.map_map] at this
 exact this⟩
section
variable {X:Cx} {d:Addr} {T:List (Str × Fl)}
theorem JW (t:jP X.prog X.w X.K d T):dA X (compareOp .In) (fun x y H Q=>∃ z,x=.str z/\y=.ref d/\Q (.bl (cH T z).isSome) H):=by
 intro pins s σ H x y v u Q I rx ry h
 obtain ⟨z,rfl,rfl,q⟩:=h
 obtain ⟨tk,rfl⟩:=rx
 cases ry
 refine in_strTab (t.at_ _ I.kIn) ?_
 rw [lookup_tab,Option.isSome_map]
 exact ⟨.bl _,H,I.tok _,rfl,q⟩
theorem DK (t:jP X.prog X.w X.K d T):dA X (compareOp .NotIn) (fun x y H Q=>∃ z,x=.str z/\y=.ref d/\Q (.bl (!(cH T z).isSome)) H):=by
 intro pins s σ H x y v u Q I rx ry h
 obtain ⟨z,rfl,rfl,q⟩:=h
 obtain ⟨tk,rfl⟩:=rx
 cases ry
 refine notin_strTab (t.at_ _ I.kIn) ?_
 rw [lookup_tab,Option.isSome_map]
 exact ⟨.bl _,H,I.tok _,rfl,q⟩
end
section
variable {D:Dat} {d:Addr} {T:List (Str × Fl)}
abbrev Tab (D:Dat):=jP D.prog D.w D.K
def dG (d:Addr) (T:List (Str × Fl)) (neg:Bool):dQ:=fun x y M Q=>match x with
 | .str z=>y=.ref d/\Q (.bl (if neg then !(cH T z).isSome else (cH T z).isSome)) M
 | _=>False
theorem EJ (t:Tab D d T):oH D .In (dG d T false):=⟨⟨_,fun X h=>JW (by rw [h.prog,h.w,h.K];exact t),fun x y u w H M Q' rm ru rw h Q c=>by
 cases u with
 | str z=>obtain ⟨rfl,h⟩:=h;exact ⟨z,ru.str,rw.ref,c.here rm fL h⟩
 | _=>exact h.elim⟩⟩
theorem FE (t:Tab D d T):oH D .NotIn (dG d T true):=⟨⟨_,fun X h=>DK (by rw [h.prog,h.w,h.K];exact t),fun x y u w H M Q' rm ru rw h Q c=>by
 cases u with
 | str z=>obtain ⟨rfl,h⟩:=h;exact ⟨z,ru.str,rw.ref,c.here rm fL h⟩
 | _=>exact h.elim⟩⟩
def gT (d:Addr) (T:List (Str × Fl)):dQ:=fun x y M Q=>match y with
 | .str z=>x=.ref d/\match cH T z with
  | some f=>Q f.u M
  | none=>False
 | _=>False
def HE (i:Nat) (f:Addr) (sp:Sp) (t:TA):TE:=fun σ H Q=>K4 i σ H fun v H1=>v=.ref f/\t σ H1 fun vs H2=>sp vs H2 Q E0
def uQ (i:Nat) (f:Addr) (sp:bG) (t:UA):UE:=fun τ M Q=>oU i τ M fun v M1=>v=.ref f/\t τ M1 fun us M2=>sp us M2 Q
end
end U2
namespace U2
open PySem PySem.Spec PyProof.Rows L2
def Jv (lo:Int) (n:Nat):It:=⟨fun i _=>i < n,fun i H x H'=>H'=H/\x=.int (lo + i * 2),fun i _=>n<=i⟩
theorem D5 {P:Program} {w:World} {K:PySem.W.Frag} {tg:Expr} (it:Addr) (lo:Int) (n:Nat):Turn P w K tg (Jv lo n) [it] it (fun i h=>IsRangeIter h it (lo + (i:Nat) * 2) ((n:Int) - (i:Nat)) 2) where
 mem:=by simp
 obj:=fun i h st b hb=>by
  have e:b=it:=by simpa using hb
  subst e
  exact ⟨_,st,fun v z=>by
   have z':Data.fields _=Data.cell v:=z
   cases z'⟩
 keep:=fun i h h' st k=>k it (by simp) _ st
 item:=by
  intro X hP hw hK hc i pins s σ H E I hf st hg
  subst hP hw hK
  obtain ⟨f0,f1,f2,f3,f4,f5⟩:=hf it (by simp)
  have W:=Walks.range (prog:=X.prog) (w:=X.w) (I.ok.hd hc) it lo 2 n
  refine W.item i s _ _ hg st fun v h' tk hv st' kk=>?_
  obtain ⟨t,rfl⟩:=hv
  have I1:L2.Inv X pins σ H { s with heap:=h',toks:=tk }:=I.turned (fun b o hb e=>kk b o (by simpa using hb) e) f0 f1 f3 f4 f5
  exact ⟨_,rfl,vG (s:={ s with heap:=h',toks:=tk }) (n:="range_iterator") st' rfl rfl (by decide) ⟨.int (lo + i * 2),H,I1,⟨t,rfl⟩,⟨rfl,rfl⟩,st',fun b hb=>(hf b hb).1⟩⟩
 done:=by
  intro X hP hw hK hc i pins s σ H E I hf st hg
  subst hP hw hK
  obtain ⟨f0,f1,f2,f3,f4,f5⟩:=hf it (by simp)
  exact wpAny_pyNext_range_end (I.ok.hd hc) st (by have:n<=i:=hg;omega) fun h' eb=>⟨rfl,I.turned (t':=s.toks) (fun b o hb e=>eb b o hb e) f0 f1 f3 f4 f5⟩
 self:=fun _ _ _ _ _ st h=>wpAny_pyIter_rangeiter st h
def half (j:Int):Nat:=((j + 1) / 2).toNat
def LM (ta:TA):TI:=fun σ H R=>ta σ H fun vs H1=>∃ j:Int,vs=[.int 0,.int j,.int 2]/\0<=j/\j < 2 ^ 61/\R (Jv 0 (half j)) H1
theorem Ce {j:Int} (h:0<=j):Builtin.Range.rangeSize 0 j 2=(half j:Nat):=by
 unfold Builtin.Range.rangeSize half
 simp only [show (2:Int) > 0 by decide,if_true]
 split <;> omega
theorem Ih {j:Int} (h:0<=j) (h2:j < 2 ^ 61):Builtin.Range.small 0 j 2=true:=by
 unfold Builtin.Range.small
 rw [Ce h]
 unfold half
 simp only [Builtin.Range.rangeFitsLong,Bool.and_eq_true,Bool.or_eq_true,decide_eq_true_eq,beq_iff_eq,show (2:Int) > 0 by decide,if_true]
 omega
theorem HY {X:Cx} {tg a b c:Expr} {ta:TA} {p pos:Pos} (hg:Gl X "range") (hm:X.mg "range"=none) (ha:PA X [a,b,c] ta) (hs:starEach [a,b,c] X.env=(false,eval a X.env) :: starEach [b,c] X.env) (hs2:(backTo pos (starEach [b,c] X.env)).any (·.1)=false) :
  PI X tg (.Call (.Name "range" p) [a,b,c] [] pos) (LM ta):=by
 intro pins s σ H R I h
 refine Call_ (rJ I hg hm boot_range (PyProof.Rows.callWith_type1 (bI (ha pos pins s σ H _ I h) fun us s1 ⟨vs,H1,I1,r1,q1⟩=>?_) hs hs2))
 obtain ⟨j,e,q1,q2,q⟩:=q1
 subst e
 cases r1 with
 | cons r rr=>cases rr with
  | cons r' rr=>cases rr with
   | cons r'' rr =>
    cases rr
    obtain ⟨t,rfl⟩:=r
    obtain ⟨t',rfl⟩:=r'
    obtain ⟨t'',rfl⟩:=r''
    refine call_range_3 (by decide) ?_
    refine wpAny_pyIter_range (IsRange.new ..) (Ih q1 q2) ?_
    have I2:L2.Inv X pins σ H1 { s1 with heap:=s1.heap.push { cls:=.type "range",data:=.fields #[.int 0 t,.int j t',.int 2 t''] },toks:=s1.toks }:=I1.kept fun b o e=>Heap.get?_push_of_some _ e
    refine ⟨(s1.heap.push { cls:=.type "range",data:=.fields #[.int 0 t,.int j t',.int 2 t''] }).objs.size,[(s1.heap.push { cls:=.type "range",data:=.fields #[.int 0 t,.int j t',.int 2 t''] }).objs.size],_,_,H1,rfl,
     I2.kept (t':=s1.toks) fun b o e=>Heap.get?_push_of_some _ e,D5 _ 0 (half j),?_,fun b hb=>?_,q⟩
    ·have e1:(0:Int) + ((0:Nat):Int) * 2=0:=by simp
     have e2:((half j:Nat):Int) - ((0:Nat):Int)=Builtin.Range.rangeSize 0 j 2:=by rw [Ce q1];simp
     show IsRangeIter _ _ ((0:Int) + ((0:Nat):Int) * 2) (((half j:Nat):Int) - ((0:Nat):Int)) 2
     rw [e1,e2]
     exact Heap.get?_push_size _ rfl
    ·have e:b=(s1.heap.push { cls:=.type "range",data:=.fields #[.int 0 t,.int j t',.int 2 t''] }).objs.size:=by simpa using hb
     subst e
     exact I2.fpOk (Nat.le_refl _) (I2.hok.fresh (Nat.le_refl _))
def j4 (n:Nat):List U:=(List.range n).map fun (k:Nat)=>U.int ((k:Int) * 2)
theorem wG {n i:Nat} {x:U} (h:(j4 n)[i]?=some x):x=.int ((i:Int) * 2)/\i < n:=by
 have hi:i < n:=by
  have:=(List.getElem?_eq_some_iff.mp h).1
  simpa [j4] using this
 simp only [j4,List.getElem?_map,List.getElem?_range hi,Option.map_some] at h
 exact ⟨(Option.some.inj h).symm,hi⟩
theorem DT (n:Nat):(j4 n).length=n:=by simp [j4]
theorem D6 {K:PySem.W.Frag} {n:Nat} {H:Hp} {M:aF}:Walk K (Jv 0 n) ⟨none,j4 n⟩ H M:=by
 refine ⟨fun H1 M1 s rm _ i u e=>?_,fun H1 M1 s rm _=>?_⟩
 ·obtain ⟨rfl,hi⟩:=wG e
  refine ⟨hi,fun x H2 y=>?_⟩
  obtain ⟨rfl,rfl⟩:=y
  exact ⟨aR.refl _ _,rm,by rw [Int.zero_add];exact dE⟩
 ·show n<=(j4 n).length
  rw [DT];exact Nat.le_refl _
def FH (ta:UA):UI:=fun τ M R=>ta τ M fun us M1=>match us with
 | [.int i,.int j,.int k]=>i=0/\k=2/\0<=j/\j < 2 ^ 61/\R ⟨none,j4 (half j)⟩ M1
 | _=>False
theorem JI {K:PySem.W.Frag} {ta:TA} {ta':UA} (h:jK K ta ta'):pW K (LM ta) (FH ta'):=fun σ τ H M R' rs rm q R c=>h σ τ H M _ rs rm q _ fun us vs M1 H1 s1 rm1 ru h1=>by
 split at h1
 ·rename_i i j k
  obtain ⟨rfl,rfl,h2,h3,h4⟩:=h1
  obtain ⟨v,vs',rfl,a,b⟩:=ru.inv_cons
  obtain ⟨v2,vs2,rfl,a2,b2⟩:=b.inv_cons
  obtain ⟨v3,rfl,a3⟩:=b2.one
  cases a.int
  cases a2.int
  cases a3.int
  exact ⟨j,rfl,h2,h3,c _ _ M1 H1 s1 rm1 D6 h4⟩
 ·exact h1.elim
theorem Mz {D:Dat} {tg a b c:Expr} {p pos:Pos} {ta:UA} (hm:D.mg "range"=none) (ha:kQ D [a,b,c] ta) (hg:D.sc.names.lookup ("range":Str)=some .globalImplicit:=by rfl) (hs:∀ env,starEach [a,b,c] env=(false,eval a env) :: starEach [b,c] env:=by intro _;rfl) (hs2:∀ env,(backTo pos (starEach [b,c] env)).any (·.1)=false:=by intro _;rfl):uW D tg (.Call (.Name "range" p) [a,b,c] [] pos) (FH ta):=by
 obtain ⟨_,q,s⟩:=ha
 exact ⟨_,fun X h=>HY (by show X.env.scope.names.lookup _=_;rw [h.sc];exact hg) (by rw [h.mg];exact hm) (q X h) (hs _) (hs2 _),JI s⟩
end U2
namespace U2
open PySem PySem.Spec PyProof.Rows L2
def tJ:List U->Option (List Str)
 | []=>some []
 | .str b :: r=>(tJ r).map (b :: ·)
 | _=>none
theorem Bb {K:PySem.W.Frag} {H:Hp} {M:aF}:∀ {us:List U} {vs:List V} {bs:List Str},aJ K H M us vs->tJ us=some bs->vs=bs.map V.str
 | [],_,_,r,h=>by cases h;exact r.inv_nil
 | u :: us,_,bs,r,h=>by
  obtain ⟨v,vs',rfl,a,b⟩:=r.inv_cons
  cases u with
  | str y =>
   simp only [tJ] at h
   cases e:tJ us with
   | none=>rw [e] at h;cases h
   | some cs =>
    rw [e] at h
    cases h
    rw [Bb b e,a.str];rfl
  | _=>cases h
end U2
namespace U2
open PySem L2
theorem Mh {α:Type} {a:α} {r:List α}:dP (a :: r) 0=some a:=eL (j:=0) rfl
theorem LP {α:Type} {a b:α} {r:List α}:dP (a :: b :: r) 1=some b:=eL (j:=1) rfl
theorem at2 {α:Type} {a b c:α} {r:List α}:dP (a :: b :: c :: r) 2=some c:=eL (j:=2) rfl
theorem Mt {α:Type} {a b c d:α} {r:List α}:dP (a :: b :: c :: d :: r) 3=some d:=eL (j:=3) rfl
theorem Qj {α:Type} (a:α) (r:List α):gE (a :: r) (some 1) none=r:=by
 unfold gE
 simp [HT.bK]
 try omega
theorem yE {M:aF}:view M .non=.non:=rfl
theorem BP {M:aF} {x:Bool}:view M (.bl x)=.bl x:=rfl
theorem xP {M:aF} {x:Int}:view M (.int x)=.int x:=rfl
theorem yX {M:aF} {x:Str}:view M (.str x)=.str x:=rfl
theorem yO {M:aF} {x:List U}:view M (.tup x)=.tup x:=rfl
theorem xR {M:aF} {x:List U}:view M (.lst x)=.lst x:=rfl
theorem uF {M:aF} {p:Addr} {us:List U}:view (mup M p (.lst us)) (.ref p)=.lst us:=bT aD
theorem EX {M:aF} {p:Addr} {us:List U}:HK (mup M p (.lst us)) (.ref p):=⟨us,uF⟩
theorem gS {o:Bool} {k:Nat} {ix:List Nat} {wi:UI} {g:UG} {te:UE} {τ:SU} {M M1:aF} {Q:UK} {S:Src} (zs:List U) (hw:∀ R:Src->aF->Prop,R S M1->wi τ M R) (hl:zs.length=S.xs.length) (hz:S.xs.length<=sizeLine) (hs:S.ok M1)
  (h:∀ (i:Nat) x y,S.xs[i]?=some x->zs[i]?=some y->∀ M,Sub M1 M->∀ R:UK,R y M->g x (fG k ix τ) M fun τ2 M2=>te τ2 M2 R)
  (q:iH o zs M1 Q):tM o k ix wi g (fun _ M Q=>Q true M) te τ M Q:=by
 refine hw _ ⟨hz,fun D hD=>⟨fun i ys M=>ys=zs.take i/\M=mup M1 D (.lst ys)/\i<=S.xs.length,⟨by simp,rfl,Nat.zero_le _⟩,?_,?_,?_⟩⟩
 ·rintro i ys M ⟨rfl,rfl,hi⟩
  refine ⟨fun a e=>?_,aD,?_⟩
  ·have:=hs a e
   rw [aG (fun z=>by subst z;rw [hD] at this;cases this)]
   exact this
  ·rw [List.length_take];omega
 ·rintro i x ys M e ⟨rfl,rfl,hi⟩
  have hlt:i < S.xs.length:=(List.getElem?_eq_some_iff.mp e).1
  have hy:zs[i]?=some zs[i]:=by simp [show i < zs.length by omega]
  have tk:zs.take (i + 1)=zs.take i++[zs[i]]:=by rw [List.take_add_one,hy];rfl
  refine h i x zs[i] e hy (mup M1 D (.lst (zs.take i))) ((Sub.refl M1).mup hD) (fun y M4=>M4 D=some (.lst (zs.take i))/\(zs.take i++[y]=zs.take (i + 1)/\mup M4 D (.lst (zs.take i++[y]))=mup M1 D (.lst (zs.take i++[y]))/\i + 1<=S.xs.length)) ?_
  exact ⟨aD,tk.symm,aV,hlt⟩
 ·rintro ys M ⟨rfl,rfl,hi⟩
  rw [show zs.take S.xs.length=zs by rw [<- hl];exact List.take_length]
  cases o with
  | true=>exact q D hD
  | false=>exact ⟨M1,(Sub.refl M1).mup hD,hD,q⟩
end U2
namespace U2
open PySem PySem.Spec PyProof.Rows L2
section
variable {prog:Program} {w:World} {A:Around} {E:Value->Shared->Prop} {s:Shared}
theorem v7 {it t:Addr} {i:Nat} {items} {x:Value} {Q:Value->Shared->Prop} (hit:s.heap.IsTupleIter it t i)
  (ht:s.heap.IsTuple t items) (hx:items[i]?=some x)
  (hQ:∀ h',h'.IsTupleIter it t (i + 1)->Heap.SameBut it s.heap h'->Q x { s with heap:=h' }) :
  wpAny (model prog w) A (Builtin.SmallTypes.nextOf (.ref it)) Q E s:=by
 obtain ⟨o,ho,hc,hd⟩:=id hit
 obtain ⟨ol,hol,_,nl,hdl⟩:=ht
 unfold Builtin.SmallTypes.nextOf
 refine wpAny_bind (wpAny_callSpecial?_slot (name:=Str.ofString "__next__") hit.typeIs PySem.F.slot_tuple_iterator_next
  (wpAny_call_entry PySem.F.slot_tuple_iterator_next hit.typeIs PySem.F.entry_tuple_iterator_next ?_ (PySem.F.args_tuple_iterator_next_1 _)))
 show wpAny _ _ (field (.ref it) 0 >>= _) _ _ s
 refine wpAny_bind (wpAny_field ho hd (x:=.ref t) rfl ?_)
 show wpAny _ _ (if (Value.ref t == Value.none)=true then _ else _) _ _ s
 rw [if_neg (show ¬ ((Value.ref t == Value.none)=true) from Bool.false_ne_true)]
 show wpAny _ _ (field (.ref it) 1 >>= _) _ _ s
 refine wpAny_bind (wpAny_field ho hd (x:=.int i 0) rfl ?_)
 show wpAny _ _ (seqItems? (.ref t) >>= _) _ _ s
 refine wpAny_bind (wpAny_seqItems hol hdl ?_)
 simp only [Int.toNat_natCast,hx]
 refine wpAny_bind (wpAny_setField ho hd (by simp) (wpAny_pure ⟨x,rfl,wpAny_pure (hQ _ ?_ (Heap.SameBut.update ..))⟩))
 exact ⟨_,Heap.get?_update_self _ ho (Obj.isFreed_of_fields (Obj.data_mapFields hd _)),(Obj.cls_mapFields ..).trans hc,by
  rw [Obj.data_mapFields hd];simp [rawInt]⟩
theorem w9 {it t:Addr} {i:Nat} {items} {Q:Value->Shared->Prop} (hh:A.handled=none)
  (hit:s.heap.IsTupleIter it t i) (ht:s.heap.IsTuple t items) (hx:items[i]?=none)
  (hE:∀ h' e,Heap.ExtBut it s.heap h'->(∃ o,h'.get? e=some o/\o.cls=.type "StopIteration")->E (.ref e) { s with heap:=h' }) :
  wpAny (model prog w) A (Builtin.SmallTypes.nextOf (.ref it)) Q E s:=by
 obtain ⟨o,ho,hc,hd⟩:=id hit
 obtain ⟨ol,hol,_,nl,hdl⟩:=ht
 unfold Builtin.SmallTypes.nextOf
 refine wpAny_bind (wpAny_callSpecial?_slot (name:=Str.ofString "__next__") hit.typeIs PySem.F.slot_tuple_iterator_next
  (wpAny_call_entry PySem.F.slot_tuple_iterator_next hit.typeIs PySem.F.entry_tuple_iterator_next ?_ (PySem.F.args_tuple_iterator_next_1 _)))
 show wpAny _ _ (field (.ref it) 0 >>= _) _ _ s
 refine wpAny_bind (wpAny_field ho hd (x:=.ref t) rfl ?_)
 show wpAny _ _ (if (Value.ref t == Value.none)=true then _ else _) _ _ s
 rw [if_neg (show ¬ ((Value.ref t == Value.none)=true) from Bool.false_ne_true)]
 show wpAny _ _ (field (.ref it) 1 >>= _) _ _ s
 refine wpAny_bind (wpAny_field ho hd (x:=.int i 0) rfl ?_)
 show wpAny _ _ (seqItems? (.ref t) >>= _) _ _ s
 refine wpAny_bind (wpAny_seqItems hol hdl ?_)
 simp only [Int.toNat_natCast,hx]
 refine wpAny_bind (wpAny_rule (wpAny_bind (wpAny_setField ho hd (by simp) ?_)))
 show wpAny _ _ (newExc (.type "StopIteration") [] >>= _) _ _ _
 refine wpAny_bind ?_
 simp only [newExc,newTuple]
 refine wpAny_bind (wpAny_newObj_type ?_ (by size_fits))
 refine wpAny_bind (m:=firstArgMember _ _) (wpAny_of_eq (a:=Value.none) (by first | rfl | (simp only [firstArgMember];rfl)) ?_)
 refine wpAny_newObj_type ?_ (by size_fits)
 simp only [raiseNew]
 refine wpAny_bind (wpAny_handled ?_)
 first | rw [show A.in1.handled=none from hh] | rw [hh]
 refine wpAny_bind (wpAny_pure (wpAny_throw ?_))
 exact hE _ _ (((Heap.SameBut.update ..).extBut.push _).push _) ⟨_,Heap.get?_push_size _ rfl,rfl⟩
theorem DW {prog:Program} {w:World} {A:Around} (hh:A.handled=none) (it l:Addr) (hne:l≠it) (items:Array Value) :
  Draws prog w A it [it,l] items.size (fun i v=>items[i]?=some v) (fun i h=>h.IsTupleIter it l i/\h.IsTuple l items) where
 live:=fun _ _ st=>let ⟨o,ho,_⟩:=st.1;⟨o,ho⟩
 frame:=fun _ _ _ st hk=>⟨st.1.at fun o e=>hk it (by simp) o e,let ⟨o,ho,r⟩:=st.2;⟨o,hk l (by simp) o ho,r⟩⟩
 item:=fun i s Q E hi st hQ=>by
  refine v7 st.1 st.2 (x:=items[i]) (by simp [hi]) fun h' hit' hs'=>?_
  exact hQ _ h' s.toks (by simp [hi]) ⟨hit',let ⟨o,ho,r⟩:=st.2;⟨o,hs'.extBut l o hne ho,r⟩⟩ hs'
 done:=fun s Q E st hE=>w9 hh st.1 st.2 (by simp) hE
end
def oY (b:Bool) (K:PySem.W.Frag) (H:Hp) (a:Addr) (xs:List V):Prop:=match b with
 | true=>eC K H a xs
 | false=>eP K H a xs
def kI (b:Bool) (h:Heap) (a:Addr) (xs:Array Value):Prop:=match b with
 | true=>h.IsList a xs
 | false=>h.IsTuple a xs
def mB (b:Bool) (h:Heap) (it a:Addr) (i:Nat):Prop:=match b with
 | true=>h.IsListIter it a i
 | false=>h.IsTupleIter it a i
def RH:Bool->String
 | true=>"list"
 | false=>"tuple"
def tR:Bool->String
 | true=>"list_iterator"
 | false=>"tuple_iterator"
theorem kR {h:Heap} {b b':Addr} {o o':Obj} {n n':String} (x:h.get? b=some o) (y:h.get? b'=some o') (p:o.cls=.type n) (q:o'.cls=.type n') (ne:n≠n'):b≠b':=fun z=>by
 subst z;rw [x] at y;cases y;rw [p] at q;exact ne (Value.type.inj q)
theorem kI.obj {b:Bool} {h:Heap} {a:Addr} {xs:Array Value} (p:kI b h a xs):∃ o n,h.get? a=some o/\o.cls=.type (RH b)/\o.data=.seq xs n:=by
 cases b <;> (obtain ⟨o,e,c,n,d⟩:=p;exact ⟨o,n,e,c,d⟩)
theorem mB.obj {b:Bool} {h:Heap} {it a:Addr} {i:Nat} (p:mB b h it a i):∃ o,h.get? it=some o/\o.cls=.type (tR b)/\o.data=.fields #[.ref a,.int i 0]:=by
 cases b <;> exact p
theorem mB.of {b:Bool} {h:Heap} {it a:Addr} {i:Nat} {o:Obj} (e:h.get? it=some o) (c:o.cls=.type (tR b)) (d:o.data=.fields #[.ref a,.int i 0]):mB b h it a i:=by
 cases b <;> exact ⟨o,e,c,d⟩
theorem mB.at {b:Bool} {h h':Heap} {it a:Addr} {i:Nat} (p:mB b h it a i) (k:∀ o,h.get? it=some o->h'.get? it=some o):mB b h' it a i :=
 let ⟨o,e,c,d⟩:=p.obj;.of (k o e) c d
theorem kI.ne {b b':Bool} {h:Heap} {a it c:Addr} {xs:Array Value} {i:Nat} (p:kI b h a xs) (q:mB b' h it c i):a≠it :=
 let ⟨_,_,e,c,_⟩:=p.obj;let ⟨_,e',c',_⟩:=q.obj;kR e e' c c' (by cases b <;> cases b' <;> decide)
theorem xW {X:Cx} {pins:List (Addr × Obj)} {σ:L2.St} {H:Hp} {s:Shared} {b:Bool} {a:Addr} {xs:List V} (I:L2.Inv X pins σ H s) (h:oY b X.K H a xs):∃ its:List Value,Vals xs its/\kI b s.heap a its.toArray/\xs.length<=sizeLine:=by
 cases b
 ·exact I.tuple h
 ·obtain ⟨its,r,p,z⟩:=I.list h;exact ⟨its,r,p.isList,z⟩
theorem Qx {X:Cx} {pins:List (Addr × Obj)} {σ:L2.St} {H:Hp} {s:Shared} {b:Bool} {a:Addr} {xs ys:List V} (I:L2.Inv X pins σ H s) (h:oY b X.K H a xs) (h':oY b X.K H a ys):xs=ys:=by
 cases b
 ·exact I.tuple_inj h h'
 ·exact I.list_inj h h'
theorem nF {prog:Program} {w:World} {A:Around} (b:Bool) (hh:A.handled=none) (it l:Addr) (hne:l≠it) (items:Array Value) :
  Draws prog w A it [it,l] items.size (fun i v=>items[i]?=some v) (fun i h=>mB b h it l i/\kI b h l items):=by
 cases b
 ·exact DW hh it l hne items
 ·exact Draws.list hh it l hne items
def Ic (b:Bool) (K:PySem.W.Frag) (H:Hp) (M:aF) (a:Addr) (vs:List V):Prop:=∀ H1 M1,aR H M H1 M1->oY b K H1 a vs
theorem HP {K:PySem.W.Frag} {H:Hp} {M:aF} {a:Addr} {vs:List V} (m:M a=none/\H a=some (.tup vs)):Ic false K H M a vs:=fun _ _ s=>.inl (.inl (s.to m.2 m.1).1)
theorem Ir {K:PySem.W.Frag} {H:Hp} {M:aF} {a:Addr} {vs:List V} (m:(M a=none/\Rd H a (.lst vs))\/KL K a vs):Ic true K H M a vs:=fun _ _ s=>by
 rcases m with ⟨m,h⟩ | k
 ·exact .inl (Rd.stp s m h).2
 ·exact .inr k
section
variable {prog:Program} {w:World} {A:Around} {E:Value->Shared->Prop} {s:Shared}
theorem xK (l:Addr) (items:Array Value) (n:Nat) (dd:Option Addr) (sl:Array (Option Value)) :
  Meets (Builtin.«enumerate.__new__» ⟨[.type "enumerate",.ref l],[]⟩) (fun _ R s=>s.heap.get? l=some { cls:=.type "tuple",dict:=dd,data:=.seq items n,slots:=sl } /\
   R (.ok (.ret (.ref (s.heap.push { cls:=.type "tuple_iterator",data:=.fields #[.ref l,.int 0 0] }).objs.size)))
    { s with heap:=(s.heap.push { cls:=.type "tuple_iterator",data:=.fields #[.ref l,.int 0 0] }).push { cls:=.type "enumerate",data:=.fields #[.none,.bool false,.ref s.heap.objs.size,rawInt 0,.none,.none] } }) :=
 .of_wp fun prog w A R s h=>by
  obtain ⟨hp,g,d,tk,os⟩:=s;obtain ⟨hl,h⟩:=h
  have hsub:=PySem.sub_enumerate
  have hL:Heap.IsTuple (Shared.heap ⟨hp,g,d,tk,os⟩) l items:=⟨_,hl,rfl,n,rfl⟩
  wp_walk using wpAny_loadPart' hl
  refine wpAny_stack_any fun st=>wpAny_pure ?_
  split
  ·rename_i c _ _ _ _ _
   cases (c == Value.type "enumerate")
   ·wp_walk using wpAny_loadPart' hl,wpAny_pyIter_tuple hL
    exact ⟨_,rfl,h⟩
   ·wp_walk using wpAny_loadPart' hl,wpAny_pyIter_tuple hL
    exact ⟨_,rfl,h⟩
  ·wp_walk using wpAny_loadPart' hl,wpAny_pyIter_tuple hL
   exact ⟨_,rfl,h⟩
theorem zL (l:Addr) (items:Array Value) (n:Nat) (dd:Option Addr) (sl:Array (Option Value)) :
  Meets (Builtin.«enumerate.__new__» ⟨[.type "enumerate",.ref l],[]⟩) (fun _ R s=>s.heap.get? l=some { cls:=.type "list",dict:=dd,data:=.seq items n,slots:=sl } /\
   R (.ok (.ret (.ref (s.heap.push { cls:=.type "list_iterator",data:=.fields #[.ref l,.int 0 0] }).objs.size)))
    { s with heap:=(s.heap.push { cls:=.type "list_iterator",data:=.fields #[.ref l,.int 0 0] }).push { cls:=.type "enumerate",data:=.fields #[.none,.bool false,.ref s.heap.objs.size,rawInt 0,.none,.none] } }) :=
 .of_wp fun prog w A R s h=>by
  obtain ⟨hp,g,d,tk,os⟩:=s;obtain ⟨hl,h⟩:=h
  have hsub:=PySem.sub_enumerate
  have hL:Heap.IsList (Shared.heap ⟨hp,g,d,tk,os⟩) l items:=⟨_,hl,rfl,n,rfl⟩
  wp_walk using wpAny_loadPart' hl
  refine wpAny_stack_any fun st=>wpAny_pure ?_
  split
  ·rename_i c _ _ _ _ _
   cases (c == Value.type "enumerate")
   ·wp_walk using wpAny_loadPart' hl,wpAny_pyIter_list hL
    exact ⟨_,rfl,h⟩
   ·wp_walk using wpAny_loadPart' hl,wpAny_pyIter_list hL
    exact ⟨_,rfl,h⟩
  ·wp_walk using wpAny_loadPart' hl,wpAny_pyIter_list hL
   exact ⟨_,rfl,h⟩
end
theorem rL {X:Cx} {pins:List (Addr × Obj)} {σ:L2.St} {H:Hp} {s:Shared} {h':Heap} {ch:List Addr} {T:Addr} {o:HO} {tk:Nat} (I:L2.Inv X pins σ H s) (hf:∀ b∈ch,sZ X pins H b)
  (k:∀ b o,b ∉ ch->s.heap.get? b=some o->h'.get? b=some o) (hT:s.heap.objs.size<=T) (new:dI X.prog X.w (upd H T o) h' T o):L2.Inv X pins σ (upd H T o) { s with heap:=h',toks:=tk }:=by
 have hn:H T=none:=I.hok.fresh hT
 refine I.call' (ch:=ch) (H':=upd H T o) rfl ⟨fun b u q n hb hx=>k b u hx q,fun b u q n hb hx=>⟨u.slots,k b u hx q⟩,fun b u q n hx=>?_,fun b u q hx=>⟨u,k b u hx q⟩,fun b xs q=>by rw [bL (cI q hn)];exact q,fun b u xs q=>by rw [bL (cI q hn)];exact q,
  fun b ps q=>⟨#[],by rw [bL (cI q hn),q];simp⟩⟩ (fun a u e=>?_) I.bare fun b hb=>⟨(hf b hb).2.2.2.1,(hf b hb).2.1,(hf b hb).2.2.2.2.1,(hf b hb).2.2.2.2.2⟩
 ·rw [bL (Nat.ne_of_lt (Nat.lt_of_lt_of_le (Heap.lt_size q) hT))];exact n
 ·by_cases ha:a=T
  ·subst ha;rw [cE] at e;cases e;exact new
  ·rw [bL ha] at e
   refine (I.hok a u e).stay (fun b z hb q=>k b z (fun hc=>?_) q) (fun c q=>by rw [bL (cI q hn)];exact q) fun c xs q=>by rw [bL (cI q hn)];exact q
   have hnone:=(hf b hc).1
   rcases hb with rfl | hb
   ·rw [hnone] at e;cases e
   ·rw [hnone] at hb;cases hb
def P4 (f:Bool) (K:PySem.W.Frag) (a:Addr):It :=
 ⟨fun i H=>∃ xs x,oY f K H a xs/\xs[i]?=some x,fun i H x H'=>∃ p v,(∀ xs,oY f K H a xs->xs[i]?=some v)/\H p=none/\x=.ref p/\H'=upd H p (.tup [.int i,v]),fun i H=>∃ xs,oY f K H a xs/\xs.length=i⟩
theorem Iz {P:Program} {w:World} {K:PySem.W.Frag} {elts:List Expr} {kk:Nat} {pos:Pos} (f:Bool) (a it e:Addr):Turn P w K (.Tuple elts kk pos) (P4 f K a) [e,it] e (fun i h=>(∃ old,IsEnum h e it i old)/\mB f h it a i) where
 mem:=by simp
 obj:=fun i h st b hb=>by
  obtain ⟨⟨old,he⟩,hi⟩:=st
  obtain ⟨o,ho,hc,hd⟩:=hi.obj
  have:b=e\/b=it:=by simpa using hb
  rcases this with rfl | rfl
  ·exact ⟨_,he,fun v z=>by
    have z':Data.fields _=Data.cell v:=z
    cases z'⟩
  ·exact ⟨o,ho,fun v z=>by rw [hd] at z;cases z⟩
 keep:=fun i h h' st k=>let ⟨⟨old,he⟩,hi⟩:=st;⟨⟨old,k e (by simp) _ he⟩,hi.at fun o q=>k it (by simp) o q⟩
 item:=by
  intro X hP hw hK hc i pins s σ H E I hf st hg
  subst hP hw hK
  obtain ⟨⟨old,he⟩,hit⟩:=st
  obtain ⟨xs,x,hq,hx⟩:=hg
  obtain ⟨its,rv,p,hz⟩:=xW I hq
  obtain ⟨u,hu,ru⟩:=rv.get hx
  have p':kI f s.heap a its.toArray:=p
  obtain ⟨oi,hoi,hci,hdi⟩:=hit.obj
  obtain ⟨oa,na,hoa,hca,hda⟩:=p'.obj
  have n1:a≠it:=p'.ne hit
  have n2:e≠it:=kR he hoi rfl hci (by cases f <;> decide)
  have n3:e≠a:=kR he hoa rfl hca (by cases f <;> decide)
  have W:=WalksT.enumerateD (prog:=X.prog) (w:=X.w) (A:=X.A) (nF f (A:=X.A.in1) (show X.A.in1.handled=none from I.ok.hd hc) it a n1 its.toArray) e n2 (by simp [n2,n3]) (by simp)
  have hlt:i < its.toArray.size:=by
   have:=(List.getElem?_eq_some_iff.mp hu).1
   simpa using this
  have hD:=nF f (prog:=X.prog) (w:=X.w) (A:=X.A.in1) (show X.A.in1.handled=none from I.ok.hd hc) it a n1 its.toArray
  refine wpAny_pyNext_enum_itemD hD he ⟨hit,p'⟩ hlt n2 (by simp [n2,n3]) fun y h' tk hy ho0 hs0 hT0 hsz0 hk0=>?_
  have helt:e < s.heap.objs.size:=Heap.lt_size he
  have hilt:it < s.heap.objs.size:=Heap.lt_size hoi
  have i5:iO h' s.heap.objs.size #[Value.int i tk,y]:=⟨_,hT0,rfl,rfl,_,rfl⟩
  have hk:∀ b o,b ∉ [e,it]->s.heap.get? b=some o->h'.get? b=some o:=fun b o hb z=>hk0 b o (fun e'=>hb (by simp [e'])) (fun e'=>hb (by simp [e'])) z
  have hMid:=(⟨⟨_,ho0⟩,hs0,Nat.ne_of_gt helt,Nat.ne_of_gt hilt⟩:(∃ x,IsEnumOut h' e it ((i:Int) + 1) x s.heap.objs.size)/\_/\s.heap.objs.size≠e/\s.heap.objs.size≠it)
  obtain ⟨T,hTe⟩:∃ T,T=s.heap.objs.size:=⟨_,rfl⟩
  rw [<- hTe] at i5 hMid ⊢
  have hT:s.heap.objs.size<=T:=Nat.le_of_eq hTe.symm
  refine ⟨.ref T,rfl,W.go elts kk pos i T _ _ E hMid fun h'' hSt hk2=>?_⟩
  have hy':y=u:=by
   have h3:its[i]?=some y:=by simpa using hy
   rw [hu] at h3;exact (Option.some.inj h3).symm
  subst hy'
  have hTT:iO h'' T #[.int i tk,y]:=let ⟨o,ho,r⟩:=i5;⟨o,hk2 T o (W.apart i T _ hMid) ho,r⟩
  refine ⟨.ref T,upd H T (.tup [.int i,x]),rL (s:=s) (h':=h'') (tk:=tk + 1) (ch:=[e,it]) I hf (fun b o hb q=>hk2 b o (by simpa using hb) (hk b o (by simpa using hb) q)) hT ⟨by show 2<=sizeLine;decide,[.int i tk,y],.cons ⟨tk,rfl⟩ (.cons ru .nil),hTT⟩,rfl,⟨T,x,fun ys hy=>by rw [<- Qx I hq hy];exact hx,I.hok.fresh hT,rfl,rfl⟩,⟨by simpa using hSt.1,hSt.2.1⟩,fun b hb=>?_⟩
  have hn:=(hf b hb).1
  rw [bL (Nat.ne_of_lt (Nat.lt_of_lt_of_le ?_ hT))]
  ·exact hn
  ·have:b=e\/b=it:=by simpa using hb
   rcases this with rfl | rfl
   ·exact Heap.lt_size he
   ·exact Heap.lt_size hoi
 done:=by
  intro X hP hw hK hc i pins s σ H E I hf st hg
  subst hP hw hK
  obtain ⟨⟨old,he⟩,hit⟩:=st
  obtain ⟨xs,hq,hx⟩:=hg
  obtain ⟨its,rv,p,hz⟩:=xW I hq
  have p':kI f s.heap a its.toArray:=p
  obtain ⟨oi,hoi,hci,hdi⟩:=hit.obj
  obtain ⟨oa,na,hoa,hca,hda⟩:=p'.obj
  have n1:a≠it:=p'.ne hit
  have n2:e≠it:=kR he hoi rfl hci (by cases f <;> decide)
  have n3:e≠a:=kR he hoa rfl hca (by cases f <;> decide)
  have W:=WalksT.enumerateD (prog:=X.prog) (w:=X.w) (A:=X.A) (nF f (A:=X.A.in1) (show X.A.in1.handled=none from I.ok.hd hc) it a n1 its.toArray) e n2 (by simp [n2,n3]) (by simp)
  have hi:i=its.toArray.size:=by rw [List.size_toArray,<- rv.length];exact hx.symm
  subst hi
  refine W.done s _ E ⟨⟨old,he⟩,hit,p'⟩ fun h' tk hk=>⟨rfl,?_⟩
  have:=I.call' (ch:=[e,it]) (H':=H) (s':={ s with heap:=h',toks:=tk }) rfl ⟨fun b u q n hb hx=>hk b u (by simpa using hx) q,fun b u q n hb hx=>⟨u.slots,hk b u (by simpa using hx) q⟩,fun b u q n hx=>n,fun b u q hx=>⟨u,hk b u (by simpa using hx) q⟩,fun b xs q=>q,fun b u xs q=>q,fun b ps q=>⟨#[],by rw [q];simp⟩⟩
   (fun a u e'=>?_) I.bare fun b hb=>⟨(hf b hb).2.2.2.1,(hf b hb).2.1,(hf b hb).2.2.2.2.1,(hf b hb).2.2.2.2.2⟩
  ·exact this
  ·refine (I.hok a u e').stay (fun b z hb q=>hk b z (fun hc=>?_) q) (fun _ q=>q) fun _ _ q=>q
   have hnone:=(hf b (by simpa using hc)).1
   rcases hb with rfl | hb
   ·rw [hnone] at e';cases e'
   ·rw [hnone] at hb;cases hb
 self:=fun _ _ _ _ _ st h=>let ⟨⟨old,he⟩,_⟩:=st;wpAny_pyIter_enum he h
theorem F5 {prog:Program} {w:World} {A:Around} {E:Value->Shared->Prop} {s:Shared} {f:Bool} {l:Addr} {items:Array Value} {Q:Value->Shared->Prop}
  (hl:kI f s.heap l items)
  (h:∀ h',IsEnum h' (s.heap.objs.size + 1) s.heap.objs.size 0 .none->mB f h' s.heap.objs.size l 0->h'.objs.size=s.heap.objs.size + 2 ->
   (∀ b o,s.heap.get? b=some o->h'.get? b=some o)->Q (.ref (s.heap.objs.size + 1)) { s with heap:=h' }) :
  wpAny (model prog w) A (call (.type "enumerate") [.ref l]) Q E s:=by
 have fin:Q (.ref (s.heap.push { cls:=.type (tR f),data:=.fields #[.ref l,.int 0 0] }).objs.size)
   { s with heap:=(s.heap.push { cls:=.type (tR f),data:=.fields #[.ref l,.int 0 0] }).push { cls:=.type "enumerate",data:=.fields #[.none,.bool false,.ref s.heap.objs.size,rawInt 0,.none,.none] } } /\
   ((s.heap.push { cls:=.type (tR f),data:=.fields #[.ref l,.int 0 0] }).push { cls:=.type "enumerate",data:=.fields #[.none,.bool false,.ref s.heap.objs.size,rawInt 0,.none,.none] }).get? (s.heap.push { cls:=.type (tR f),data:=.fields #[.ref l,.int 0 0] }).objs.size=some { cls:=.type "enumerate",data:=.fields #[.none,.bool false,.ref s.heap.objs.size,rawInt 0,.none,.none] }:=by
  have hz:(s.heap.push { cls:=.type (tR f),data:=.fields #[.ref l,.int 0 0] }).objs.size=s.heap.objs.size + 1:=Heap.size_push ..
  have he:=Heap.get?_push_size (s.heap.push { cls:=.type (tR f),data:=.fields #[.ref l,.int 0 0] })
   (o:={ cls:=.type "enumerate",data:=.fields #[.none,.bool false,.ref s.heap.objs.size,rawInt 0,.none,.none] }) rfl
  refine ⟨?_,he⟩
  rw [hz] at he
  rw [hz]
  exact h _ he (.of (Heap.get?_push_of_some _ (Heap.get?_push_size _ rfl)) rfl rfl) (by rw [Heap.size_push,hz]) fun b o x=>Heap.get?_push_of_some _ (Heap.get?_push_of_some _ x)
 obtain ⟨⟨oc,od,odt,osl⟩,n,ho,hc,hd⟩:=hl.obj
 have hc':oc=.type (RH f):=hc
 have hd':odt=.seq items n:=hd
 subst hc' hd'
 cases f
 ·exact callType_new F.called_enumerate (by decide) (F.typeCall_enumerate_1 _) (F.newCall_enumerate_1 _) (fun obj=>F.args_object_init_2 obj _) F.entry_enumerate_new
   (xK l items n od osl) ⟨ho,⟨_,fin.2,rfl⟩,fin.1⟩
 ·exact callType_new F.called_enumerate (by decide) (F.typeCall_enumerate_1 _) (F.newCall_enumerate_1 _) (fun obj=>F.args_object_init_2 obj _) F.entry_enumerate_new
   (zL l items n od osl) ⟨ho,⟨_,fin.2,rfl⟩,fin.1⟩
def Gx (f:Bool) (K:PySem.W.Frag) (ta:TA):TI:=fun σ H R=>ta σ H fun vs H1=>∃ a,vs=[.ref a]/\(∃ xs,oY f K H1 a xs)/\R (P4 f K a) H1
theorem ET {f:Bool} {X:Cx} {elts:List Expr} {kk:Nat} {tpos:Pos} {a:Expr} {ta:TA} {p pos:Pos} (hg:Gl X "enumerate") (hm:X.mg "enumerate"=none) (ha:PA X [a] ta) (hs:starEach [a] X.env=[(false,eval a X.env)]) :
  PI X (.Tuple elts kk tpos) (.Call (.Name "enumerate" p) [a] [] pos) (Gx f X.K ta):=by
 intro pins s σ H R I h
 refine Call_ (rJ I hg hm boot_enumerate (PyProof.Rows.callWith_type1 (bI (ha pos pins s σ H _ I h) fun us s1 ⟨vs,H1,I1,r1,q1⟩=>?_) hs rfl))
 obtain ⟨a,e,⟨xs,hq⟩,q⟩:=q1
 subst e
 cases r1 with
 | cons r rr =>
  cases rr
  cases r
  obtain ⟨its,rv,p,hz⟩:=xW I1 hq
  refine F5 p fun h' he hit hsz hk=>?_
  refine wpAny_pyIter_enum (s:={ s1 with heap:=h' }) he ?_
  have I2:L2.Inv X pins σ H1 { s1 with heap:=h',toks:=s1.toks }:=I1.kept hk
  refine ⟨s1.heap.objs.size + 1,[s1.heap.objs.size + 1,s1.heap.objs.size],_,_,H1,rfl,I2,Iz f a s1.heap.objs.size (s1.heap.objs.size + 1),⟨⟨_,he⟩,hit⟩,fun b hb=>?_,q⟩
  have e:b=s1.heap.objs.size + 1\/b=s1.heap.objs.size:=by simpa using hb
  rcases e with rfl | rfl
  ·exact I1.fpOk (Nat.le_succ _) (I1.hok.fresh (Nat.le_succ _))
  ·exact I1.fpOk (Nat.le_refl _) (I1.hok.fresh (Nat.le_refl _))
def numbered (us:List U):List U:=us.zipIdx.map fun p=>.tup [.int (p.2:Nat),p.1]
theorem mV (us:List U):(numbered us).length=us.length:=by simp [numbered]
theorem pZ {us:List U} {i:Nat} {x:U} (h:(numbered us)[i]?=some x):∃ u,us[i]?=some u/\x=.tup [.int i,u]:=by
 simp only [numbered,List.getElem?_map,List.getElem?_zipIdx] at h
 cases e:us[i]? with
 | none=>rw [e] at h;simp at h
 | some u=>rw [e] at h;simp at h;exact ⟨u,rfl,h.symm⟩
theorem A6 {f:Bool} {K:PySem.W.Frag} {a:Addr} {us:List U} {vs:List V} {H:Hp} {M:aF} (sq:Ic f K H M a vs) (r:aJ K H M us vs):Walk K (P4 f K a) ⟨none,numbered us⟩ H M:=by
 refine ⟨fun H1 M1 s rm _ i u e=>?_,fun H1 M1 s rm _=>⟨vs,sq H1 M1 s,by show vs.length=(numbered us).length;rw [mV,r.length]⟩⟩
 obtain ⟨w,e1,rfl⟩:=pZ e
 obtain ⟨v,e2,ru⟩:=r.get e1
 refine ⟨⟨vs,v,sq H1 M1 s,e2⟩,fun x H2 y=>?_⟩
 obtain ⟨p,v',y,hp,rfl,rfl⟩:=y
 have:=y vs (sq _ M1 s)
 rw [e2] at this;cases this
 have st:=aR.laid (o:=.tup [.int i,v]) rm hp
 have rr:aJ K H1 M1 [.int i,w] [.int i,v]:=by
  simp only [aJ]
  exact ⟨_,_,rfl,dE,_,_,rfl,ru.stp s,rfl⟩
 exact ⟨st,rm.laid hp,xD (rm.no hp) cE (rr.stp st)⟩
def vA (ta:UA):UI:=fun τ M R=>ta τ M fun us M1=>match us with
 | [.tup us]=>R ⟨none,numbered us⟩ M1
 | _=>False
theorem K5 {K:PySem.W.Frag} {ta:TA} {ta':UA} (h:jK K ta ta'):pW K (Gx false K ta) (vA ta'):=fun σ τ H M R' rs rm q R c=>h σ τ H M _ rs rm q _ fun us vs M1 H1 s1 rm1 ru h1=>by
 split at h1
 ·rename_i xs
  obtain ⟨v,rfl,a⟩:=ru.one
  simp only [aM] at a
  obtain ⟨a,vs,rfl,m,r⟩:=a
  refine ⟨a,rfl,⟨vs,?_⟩,c _ _ M1 H1 s1 rm1 (A6 (HP m) r) h1⟩
  exact .inl (.inl m.2)
 ·exact h1.elim
theorem Df {D:Dat} {elts:List Expr} {kk:Nat} {tpos:Pos} {a:Expr} {p pos:Pos} {ta:UA} (hm:D.mg "enumerate"=none) (ha:kQ D [a] ta) (hg:D.sc.names.lookup ("enumerate":Str)=some .globalImplicit:=by rfl) (hs:∀ env,starEach [a] env=[(false,eval a env)]:=by intro _;rfl):uW D (.Tuple elts kk tpos) (.Call (.Name "enumerate" p) [a] [] pos) (vA ta):=by
 obtain ⟨_,q,s⟩:=ha
 exact ⟨_,fun X h=>h.K ▸ ET (by show X.env.scope.names.lookup _=_;rw [h.sc];exact hg) (by rw [h.mg];exact hm) (q X h) (hs _),K5 s⟩
def rD (ta:UA):UI:=fun τ M R=>ta τ M fun us M1=>match us with
 | [.lst us]=>R ⟨none,numbered us⟩ M1
 | _=>False
theorem Hn {K:PySem.W.Frag} {ta:TA} {ta':UA} (h:jK K ta ta'):pW K (Gx true K ta) (rD ta'):=fun σ τ H M R' rs rm q R c=>h σ τ H M _ rs rm q _ fun us vs M1 H1 s1 rm1 ru h1=>by
 split at h1
 ·rename_i xs
  obtain ⟨v,rfl,a⟩:=ru.one
  simp only [aM] at a
  obtain ⟨a,vs,rfl,m,r⟩:=a
  refine ⟨a,rfl,⟨vs,?_⟩,c _ _ M1 H1 s1 rm1 (A6 (Ir m) r) h1⟩
  rcases m with ⟨_,m⟩ | k
  ·exact .inl m
  ·exact .inr k
 ·exact h1.elim
theorem Bz {D:Dat} {elts:List Expr} {kk:Nat} {tpos:Pos} {a:Expr} {p pos:Pos} {ta:UA} (hm:D.mg "enumerate"=none) (ha:kQ D [a] ta) (hg:D.sc.names.lookup ("enumerate":Str)=some .globalImplicit:=by rfl) (hs:∀ env,starEach [a] env=[(false,eval a env)]:=by intro _;rfl):uW D (.Tuple elts kk tpos) (.Call (.Name "enumerate" p) [a] [] pos) (rD ta):=by
 obtain ⟨_,q,s⟩:=ha
 exact ⟨_,fun X h=>h.K ▸ ET (by show X.env.scope.names.lookup _=_;rw [h.sc];exact hg) (by rw [h.mg];exact hm) (q X h) (hs _),Hn s⟩
end U2
namespace U2
open PySem PySem.Spec PyProof.Rows L2
mutual
def fN (K:PySem.W.Frag) (H:Hp):PyData->V->Prop
 | .none,v=>v=.non
 | .bool b,v=>v=.bl b
 | .int i,v=>v=.int i
 | .str z,v=>v=.str z
 | .list ds,v=>∃ a xs,v=.ref a/\eC K H a xs/\cP K H ds xs
 | .tuple ds,v=>∃ a xs,v=.ref a/\eP K H a xs/\cP K H ds xs
 | .dict _,_=>False
def cP (K:PySem.W.Frag) (H:Hp):List PyData->List V->Prop
 | [],vs=>vs=[]
 | d :: ds,vs=>∃ v vs',vs=v :: vs'/\fN K H d v/\cP K H ds vs'
end
mutual
theorem fN.reads {X:Cx} {pins:List (Addr × Obj)} {σ:L2.St} {H:Hp} {s:Shared} (I:L2.Inv X pins σ H s):∀ {d:PyData} {v:V} {u:Value},fN X.K H d v->RelV v u->∃ as,Reads s.heap u d as
 | .none,v,u,h,r=>by simp only [fN] at h;subst h;cases r;exact ⟨_,.none⟩
 | .bool b,v,u,h,r=>by simp only [fN] at h;subst h;cases r;exact ⟨_,.bool b⟩
 | .int i,v,u,h,r=>by simp only [fN] at h;subst h;obtain ⟨t,rfl⟩:=r;exact ⟨_,.int i t⟩
 | .str z,v,u,h,r=>by simp only [fN] at h;subst h;obtain ⟨t,rfl⟩:=r;exact ⟨_,.str z t⟩
 | .list ds,v,u,h,r=>by
  simp only [fN] at h
  obtain ⟨a,xs,rfl,q,hs⟩:=h
  cases r
  obtain ⟨its,rv,p,hz⟩:=I.list q
  obtain ⟨as,ra⟩:=cP.reads I hs rv
  obtain ⟨o,h1,h2,n,h3⟩:=p.isList
  exact ⟨_,.list h1 h2 h3 (by simpa using ra)⟩
 | .tuple ds,v,u,h,r=>by
  simp only [fN] at h
  obtain ⟨a,xs,rfl,q,hs⟩:=h
  cases r
  obtain ⟨its,rv,p,hz⟩:=I.tuple q
  obtain ⟨as,ra⟩:=cP.reads I hs rv
  obtain ⟨o,h1,h2,n,h3⟩:=(show s.heap.IsTuple a its.toArray from p)
  exact ⟨_,.tuple h1 h2 h3 (by simpa using ra)⟩
 | .dict _,v,u,h,r=>by simp only [fN] at h
theorem cP.reads {X:Cx} {pins:List (Addr × Obj)} {σ:L2.St} {H:Hp} {s:Shared} (I:L2.Inv X pins σ H s):∀ {ds:List PyData} {vs:List V} {us:List Value},cP X.K H ds vs->Vals vs us->∃ as,ReadsAll s.heap us ds as
 | [],vs,us,h,r=>by simp only [cP] at h;subst h;cases r;exact ⟨_,.nil⟩
 | d :: ds,vs,us,h,r=>by
  simp only [cP] at h
  obtain ⟨v,vs',rfl,h1,h2⟩:=h
  cases r with
  | cons r rr =>
   obtain ⟨as,ra⟩:=fN.reads I h1 r
   obtain ⟨bs,rb⟩:=cP.reads I h2 rr
   exact ⟨_,.cons ra rb⟩
end
def Lb (K:PySem.W.Frag) (neg:Bool):R2:=fun x y H Q=>∃ d d',fN K H d x/\fN K H d' y/\d.canLay0=true/\d'.canLay0=true/\min d.depth d'.depth<=64/\Q (.bl (if neg then !PyData.eqv d d' else PyData.eqv d d')) H
theorem OH {X:Cx} {k:Nat} (hr:dC k X.A):dA X (compareOp .Eq) (Lb X.K false):=by
 intro pins s σ H x y v u Q I rx ry h
 obtain ⟨d,d',h1,h2,c1,c2,hd,q⟩:=h
 obtain ⟨as,ra⟩:=h1.reads I rx
 obtain ⟨bs,rb⟩:=h2.reads I ry
 exact SeqAt.compareEq_reads ra rb c1 c2 (by have:=hr.units;omega) ⟨.bl _,H,I,rfl,q⟩
theorem OL {X:Cx} {k:Nat} (hr:dC k X.A):dA X (compareOp .NotEq) (Lb X.K true):=by
 intro pins s σ H x y v u Q I rx ry h
 obtain ⟨d,d',h1,h2,c1,c2,hd,q⟩:=h
 obtain ⟨as,ra⟩:=h1.reads I rx
 obtain ⟨bs,rb⟩:=h2.reads I ry
 exact SeqAt.compareNe_reads ra rb c1 c2 (by have:=hr.units;omega) ⟨.bl _,H,I,rfl,q⟩
mutual
def toD:U->Option PyData
 | .non=>some .none
 | .bl b=>some (.bool b)
 | .int i=>some (.int i)
 | .str z=>some (.str z)
 | .tup us=>(dY us).map .tuple
 | .lst us=>(dY us).map .list
 | .ty _=>none
 | .ref _=>none
 | .dic _ _ _=>none
def dY:List U->Option (List PyData)
 | []=>some []
 | u :: us=>match toD u,dY us with
  | some d,some ds=>some (d :: ds)
  | _,_=>none
end
def qQ (M:aF) (u:U):Option PyData:=match u with
 | .ref a=>match M a with
  | some (.lst us)=>(dY us).map .list
  | _=>none
 | u=>toD u
mutual
theorem EZ {K:PySem.W.Frag} {H:Hp} {M:aF}:∀ {u:U} {v:V} {d:PyData},aM K H M u v->toD u=some d->fN K H d v
 | .non,v,d,r,e=>by simp only [toD,Option.some.injEq] at e;subst e;simp only [fN];exact r.non
 | .bl b,v,d,r,e=>by simp only [toD,Option.some.injEq] at e;subst e;simp only [fN];exact r.bl
 | .int i,v,d,r,e=>by simp only [toD,Option.some.injEq] at e;subst e;simp only [fN];exact r.int
 | .str i,v,d,r,e=>by simp only [toD,Option.some.injEq] at e;subst e;simp only [fN];exact r.str
 | .tup us,v,d,r,e=>by
  simp only [toD] at e
  cases e2:dY us with
  | none=>rw [e2] at e;simp at e
  | some ds =>
   rw [e2] at e;simp at e;subst e
   obtain ⟨a,vs,rfl,q,rs⟩:=r.tup
   simp only [fN]
   exact ⟨a,vs,rfl,q,m9 rs e2⟩
 | .lst us,v,d,r,e=>by
  simp only [toD] at e
  cases e2:dY us with
  | none=>rw [e2] at e;simp at e
  | some ds =>
   rw [e2] at e;simp at e;subst e
   obtain ⟨a,vs,rfl,q,rs⟩:=r.lst
   simp only [fN]
   exact ⟨a,vs,rfl,q,m9 rs e2⟩
 | .ty _,v,d,r,e=>by simp [toD] at e
 | .ref _,v,d,r,e=>by simp [toD] at e
 | .dic _ _ _,v,d,r,e=>by simp [toD] at e
theorem m9 {K:PySem.W.Frag} {H:Hp} {M:aF}:∀ {us:List U} {vs:List V} {ds:List PyData},aJ K H M us vs->dY us=some ds->cP K H ds vs
 | [],vs,ds,r,e=>by simp only [dY,Option.some.injEq] at e;subst e;simp only [cP];exact r.inv_nil
 | u :: us,vs,ds,r,e=>by
  obtain ⟨v,vs',rfl,a,b⟩:=r.inv_cons
  simp only [dY] at e
  cases e1:toD u with
  | none=>rw [e1] at e;simp at e
  | some d =>
   cases e2:dY us with
   | none=>rw [e1,e2] at e;simp at e
   | some ds' =>
    rw [e1,e2] at e;simp at e;subst e
    simp only [cP]
    exact ⟨v,vs',rfl,EZ a e1,m9 b e2⟩
end
theorem rU {K:PySem.W.Frag} {H:Hp} {M:aF} {u:U} {v:V} {d:PyData} (rm:RelM K H M) (r:aM K H M u v) (e:qQ M u=some d):fN K H d v:=by
 cases u with
 | ref a =>
  simp only [qQ] at e
  split at e
  ·rename_i us hM
   cases e2:dY us with
   | none=>rw [e2] at e;simp at e
   | some ds =>
    rw [e2] at e;simp at e;subst e
    obtain ⟨vs,h1,rs⟩:=rm a _ hM
    cases r.ref
    simp only [fN]
    exact ⟨a,vs,rfl,.inl (.inl h1),m9 rs e2⟩
  ·cases e
 | _=>exact EZ r (by simpa only [qQ] using e)
def Pl (neg:Bool):dQ:=fun x y M Q=>∃ d d',qQ M x=some d/\qQ M y=some d'/\d.canLay0=true/\d'.canLay0=true/\min d.depth d'.depth<=64/\Q (.bl (if neg then !PyData.eqv d d' else PyData.eqv d d')) M
theorem Ej {K:PySem.W.Frag} {neg:Bool}:dJ K (Lb K neg) (Pl neg):=fun x y u w H M Q' rm ru rw h Q c=>by
 obtain ⟨d,d',e1,e2,c1,c2,hd,q⟩:=h
 exact ⟨d,d',rU rm ru e1,rU rm rw e2,c1,c2,hd,c.here rm fL q⟩
variable {D:Dat}
def jA:U->Bool
 | .non=>true
 | .bl _=>true
 | .int _=>true
 | .str _=>true
 | _=>false
def oW:U->U->Bool
 | .non,.non=>true
 | .bl a,.bl b=>a == b
 | .bl a,.int j=>(if a then 1 else 0) == j
 | .int i,.bl b=>i == (if b then 1 else 0)
 | .int i,.int j=>i == j
 | .str x,.str y=>x == y
 | _,_=>false
def items (M:aF):U->Option (List U)
 | .tup us=>some us
 | .lst us=>some us
 | .ref a=>match M a with
  | some (.lst us)=>some us
  | _=>none
 | _=>none
def jG (neg:Bool):dQ:=fun x y M Q=>match items M y with
 | some us=>jA x=true/\us.all jA=true/\Q (.bl (if neg then !us.any (fun u=>oW u x) else us.any (fun u=>oW u x))) M
 | none=>False
theorem Cs {K:PySem.W.Frag} {H:Hp} {M:aF} {u:U} {v:V} (r:aM K H M u v) (f:jA u=true):iG v=true:=by
 cases u with
 | non=>cases r.non;rfl
 | bl b=>cases r.bl;rfl
 | int b=>cases r.int;rfl
 | str b=>cases r.str;rfl
 | _=>exact absurd (show false=true from f) Bool.false_ne_true
theorem N5 {K:PySem.W.Frag} {H:Hp} {M:aF} {u w:U} {v x:V} (r:aM K H M u v) (r':aM K H M w x) (f:jA u=true) (f':jA w=true):qM v x=oW u w:=by
 cases u <;> (first | (cases r.non) | (cases r.bl) | (cases r.int) | (cases r.str) | exact absurd (show false=true from f) Bool.false_ne_true) <;> cases w <;>
  (first | (cases r'.non) | (cases r'.bl) | (cases r'.int) | (cases r'.str) | exact absurd (show false=true from f') Bool.false_ne_true) <;> rfl
theorem Be {K:PySem.W.Frag} {H:Hp} {M:aF}:∀ {us:List U} {vs:List V},aJ K H M us vs->us.all jA=true->vs.all iG=true
 | [],vs,r,_=>by cases r.inv_nil;rfl
 | u :: us,vs,r,f=>by
  obtain ⟨v,vs',rfl,a,b⟩:=r.inv_cons
  rw [List.all_cons,Bool.and_eq_true] at f ⊢
  exact ⟨Cs a f.1,Be b f.2⟩
theorem Ew {K:PySem.W.Frag} {H:Hp} {M:aF} {w:U} {x:V} (r':aM K H M w x) (f':jA w=true):∀ {us:List U} {vs:List V},aJ K H M us vs->us.all jA=true->LN x vs=us.any fun u=>oW u w
 | [],vs,r,_=>by cases r.inv_nil;rfl
 | u :: us,vs,r,f=>by
  obtain ⟨v,vs',rfl,a,b⟩:=r.inv_cons
  rw [List.all_cons,Bool.and_eq_true] at f
  have:=Ew r' f' b f.2
  unfold LN at this ⊢
  rw [List.any_cons,List.any_cons,this,N5 a r' f.1 f']
theorem A1 {K:PySem.W.Frag} {H:Hp} {M:aF} {u:U} {v:V} {us:List U} (rm:RelM K H M) (r:aM K H M u v) (e:items M u=some us):∃ p xs,v=.ref p/\(eC K H p xs\/eP K H p xs)/\aJ K H M us xs:=by
 cases u with
 | tup us'=>cases e;obtain ⟨a,vs,rfl,q,rs⟩:=r.tup;exact ⟨a,vs,rfl,.inr q,rs⟩
 | lst us'=>cases e;obtain ⟨a,vs,rfl,q,rs⟩:=r.lst;exact ⟨a,vs,rfl,.inl q,rs⟩
 | ref a =>
  simp only [items] at e
  split at e
  ·rename_i us' hM
   cases e
   obtain ⟨vs,h1,rs⟩:=rm a _ hM
   exact ⟨a,vs,r.ref,.inl (.inl (.inl h1)),rs⟩
  ·cases e
 | _=>cases e
theorem Hc {K:PySem.W.Frag} {neg:Bool}:dJ K (Pk K neg) (jG neg):=fun x y u w H M Q' rm ru rw h Q c=>by
 unfold jG at h
 split at h
 ·rename_i us e
  obtain ⟨f,fs,q⟩:=h
  obtain ⟨p,xs,rfl,hs,rs⟩:=A1 rm rw e
  refine ⟨p,xs,rfl,hs,Cs ru f,Be rs fs,?_⟩
  rw [Ew ru f rs fs]
  exact c.here rm fL q
 ·exact h.elim
theorem Lx:oH D .In (jG false):=⟨⟨_,fun X h=>h.K ▸ Hy,Hc⟩⟩
theorem ND:oH D .NotIn (jG true):=⟨⟨_,fun X h=>h.K ▸ CJ,Hc⟩⟩
def Aq (neg:Bool):dQ:=fun x y M Q=>match Il x y with
 | some b=>Q (.bl (if neg then !b else b)) M
 | none=>Pl neg x y M Q
theorem j9:oH D .Eq (Aq false):=⟨⟨_,fun X h=>h.K ▸ Q8.or (OH h.room),fun x y u w H M Q' rm ru rw h Q c=>by
 unfold Aq at h
 split at h
 ·rename_i b e
  obtain ⟨h1,h2⟩:=EM ru rw e
  exact .inl ⟨h1,c.here rm (by rw [h2];exact fL) h⟩
 ·exact .inr (Ej x y u w H M Q' rm ru rw h Q c)⟩⟩
theorem u6:oH D .NotEq (Aq true):=⟨⟨_,fun X h=>h.K ▸ Rk.or (OL h.room),fun x y u w H M Q' rm ru rw h Q c=>by
 unfold Aq at h
 split at h
 ·rename_i b e
  obtain ⟨h1,h2⟩:=EM ru rw e
  exact .inl ⟨h1,c.here rm (by rw [h2];exact fL) h⟩
 ·exact .inr (Ej x y u w H M Q' rm ru rw h Q c)⟩⟩
end U2
namespace U2
open PySem PySem.Spec PyProof.Rows L2
structure Zp (z TI TO i1 i2:Addr) (f1 f2:List Addr):Prop where
 TIz:TI≠z
 TOz:TO≠z
 i1z:i1≠z
 i2z:i2≠z
 TITO:TI≠TO
 TIi1:TI≠i1
 TIi2:TI≠i2
 TOi1:TO≠i1
 TOi2:TO≠i2
 i12:i1≠i2
 zf1:z ∉ f1
 zf2:z ∉ f2
 Tf1:TO ∉ f1
 Tf2:TO ∉ f2
 if2:i1 ∉ f2
 if1:i2 ∉ f1
theorem Draws.same {prog:Program} {w:World} {A:Around} {it:Addr} {fp:List Addr} {n:Nat} {P:Nat->Value->Prop} {St:Nat->Heap->Prop} (D:Draws prog w A it fp n P St) {i:Nat} {h h':Heap} {c:Addr} (st:St i h) (sb:Heap.ExtBut c h h') (hc:c ∉ fp):St i h' :=
 D.frame _ _ _ st fun b hb o e=>sb b o (fun q=>hc (q ▸ hb)) e
section
variable {prog:Program} {w:World} {A:Around} {E:Value->Shared->Prop} {s:Shared} {z TI TO i1 i2:Addr} {f1 f2:List Addr} {n1 n2:Nat} {P1 P2:Nat->Value->Prop} {S1 S2:Nat->Heap->Prop} {i:Nat} {a b:Value}
theorem JP (Z:Zp z TI TO i1 i2 f1 f2) (D1:Draws prog w A i1 f1 n1 P1 S1) (D2:Draws prog w A i2 f2 n2 P2 S2) {Q:Value->Shared->Prop}
  (hz:IsZip s.heap z TI TO .none) (hTI:IsPair s.heap TI (.ref i1) (.ref i2)) (hTO:IsPair s.heap TO a b) (h1:S1 i s.heap) (h2:S2 i s.heap) (l1:i < n1) (l2:i < n2)
  (hQ:∀ x y h' tk,P1 i x->P2 i y->IsZip h' z TI TO (rawInt s.heap.objs.size)->IsPair h' TO x y->S1 (i + 1) h'->S2 (i + 1) h'->IsPair h' s.heap.objs.size x y ->
   (∀ c o,c≠z->c≠TO->c≠i1->c≠i2->s.heap.get? c=some o->h'.get? c=some o)->Q (.ref s.heap.objs.size) { s with heap:=h',toks:=tk }) :
  wpAny (model prog w) A (Builtin.«zip.__next__» ⟨[.ref z],[]⟩) (fun fin s'=>∃ v,fin=.done (.ret v)/\Q v s') E s:=by
 show wpAny _ _ (field (.ref z) 2 >>= _) _ _ _
 refine wpAny_bind (wpAny_field hz rfl (x:=.bool false) rfl ?_)
 show wpAny _ _ (field (.ref z) 3 >>= _) _ _ _
 refine wpAny_bind (wpAny_field hz rfl (x:=.ref TI) rfl ?_)
 refine wpAny_bind (wpAny_seqItems hTI rfl ?_)
 show wpAny _ _ (Builtin.SmallTypes.ownedTupleIsFree (.ref z) >>= _) _ _ _
 refine wpAny_bind ?_
 unfold Builtin.SmallTypes.ownedTupleIsFree
 refine wpAny_bind (wpAny_field hz rfl (x:=.none) rfl (wpAny_pure ?_))
 simp only [if_true]
 refine wpAny_bind (wpAny_rule ?_)
 refine wpAny_bind (wpAny_field hz rfl (x:=.ref TO) rfl ?_)
 refine wpAny_bind (wpAny_setField_rec hz (by simp) fun g1 hz1 hs1=>?_)
 replace hz1:IsZip g1 z TI TO .ellipsis:=hz1
 refine wpAny_bind ?_
 simp only [List.zipIdx_cons,List.zipIdx_nil,List.forIn_cons,List.forIn_nil]
 refine wpAny_bind (wpAny_bind (wpAny_onRaise ?_))
 show wpAny _ _ (Builtin.SmallTypes.nextOf (.ref i1) >>= _) _ _ _
 refine wpAny_bind (D1.item i _ _ _ l1 (Draws.same D1 h1 hs1.extBut Z.zf1) fun x g2 tk2 px cJ hs2=>wpAny_pure ?_)
 have hTO2:IsPair g2 TO a b:=hs2.extBut _ _ Z.TOi1 (hs1.extBut _ _ Z.TOz hTO)
 refine wpAny_bind (wpAny_seqItems hTO2 rfl ?_)
 refine wpAny_bind (wpAny_updateSeq_pair hTO2 fun g3 hTO3 hs3=>?_)
 replace hTO3:IsPair g3 TO x b:=hTO3
 refine wpAny_bind (wpAny_letGo (wpAny_pure ?_))
 refine wpAny_bind (wpAny_bind (wpAny_onRaise ?_))
 show wpAny _ _ (Builtin.SmallTypes.nextOf (.ref i2) >>= _) _ _ _
 refine wpAny_bind (D2.item i _ _ _ l2 (Draws.same D2 (Draws.same D2 (Draws.same D2 h2 hs1.extBut Z.zf2) hs2.extBut Z.if2) hs3.extBut Z.Tf2) fun y g4 tk4 py st4 hs4=>wpAny_pure ?_)
 have hTO4:IsPair g4 TO x b:=hs4.extBut _ _ Z.TOi2 hTO3
 refine wpAny_bind (wpAny_seqItems hTO4 rfl ?_)
 refine wpAny_bind (wpAny_updateSeq_pair hTO4 fun g5 hTO5 hs5=>?_)
 replace hTO5:IsPair g5 TO x y:=hTO5
 refine wpAny_bind (wpAny_letGo (wpAny_pure (wpAny_pure ?_)))
 refine wpAny_bind (wpAny_seqItems hTO5 rfl ?_)
 refine wpAny_bind (wpAny_newTuple ?_)
 have hsz:g5.objs.size=s.heap.objs.size:=by rw [hs5.1,hs4.1,hs3.1,hs2.1,hs1.1]
 have hz5:IsZip g5 z TI TO .ellipsis:=hs5.extBut _ _ Z.TOz.symm (hs4.extBut _ _ Z.i2z.symm (hs3.extBut _ _ Z.TOz.symm (hs2.extBut _ _ Z.i1z.symm hz1)))
 have hk5:∀ c o,c≠z->c≠TO->c≠i1->c≠i2->s.heap.get? c=some o->g5.get? c=some o:=fun c o c1 c2 c3 c4 e =>
  hs5.extBut _ _ c2 (hs4.extBut _ _ c4 (hs3.extBut _ _ c2 (hs2.extBut _ _ c3 (hs1.extBut _ _ c1 e))))
 have h15:S1 (i + 1) g5:=Draws.same D1 (Draws.same D1 (Draws.same D1 cJ hs3.extBut Z.Tf1) hs4.extBut Z.if1) hs5.extBut Z.Tf1
 have h25:S2 (i + 1) g5:=Draws.same D2 st4 hs5.extBut Z.Tf2
 have hzlt:z < g5.objs.size:=Heap.lt_size hz5
 show wpAny _ _ (Builtin.SmallTypes.ownedTupleHandOut (.ref z) (.ref g5.objs.size) >>= _) _ _ _
 refine wpAny_bind ?_
 unfold Builtin.SmallTypes.ownedTupleHandOut
 have hz6:IsZip (g5.push { cls:=.type "tuple",data:=.seq #[x,y] }) z TI TO .ellipsis:=Heap.get?_push_of_some _ hz5
 refine wpAny_bind (wpAny_setField_rec hz6 (by simp) fun g7 hz7 hs7=>?_)
 replace hz7:IsZip g7 z TI TO (rawInt g5.objs.size):=hz7
 refine wpAny_setField_rec hz7 (by simp) fun g8 hz8 hs8=>?_
 replace hz8:IsZip g8 z TI TO (rawInt g5.objs.size):=hz8
 have up:∀ c o,c≠z->g5.get? c=some o->g8.get? c=some o:=fun c o c1 e=>hs8.extBut _ _ c1 (hs7.extBut _ _ c1 (Heap.get?_push_of_some _ e))
 have hT8:IsPair g8 g5.objs.size x y:=hs8.extBut _ _ (Nat.ne_of_gt hzlt) (hs7.extBut _ _ (Nat.ne_of_gt hzlt) (Heap.get?_push_size _ rfl))
 rw [hsz] at hz8 hT8
 refine wpAny_pure ⟨_,rfl,?_⟩
 show Q (.ref g5.objs.size) _
 rw [hsz]
 exact hQ x y g8 _ px py hz8 (up _ _ Z.TOz hTO5) (D1.frame _ _ _ h15 fun b hb o e=>up b o (fun q=>Z.zf1 (q ▸ hb)) e) (D2.frame _ _ _ h25 fun b hb o e=>up b o (fun q=>Z.zf2 (q ▸ hb)) e) hT8 fun c o c1 c2 c3 c4 e=>up c o c1 (hk5 c o c1 c2 c3 c4 e)
theorem NR (Z:Zp z TI TO i1 i2 f1 f2) (D1:Draws prog w A i1 f1 n1 P1 S1) (D2:Draws prog w A i2 f2 n2 P2 S2) {Q:Fin->Shared->Prop}
  (hz:IsZip s.heap z TI TO .none) (hTI:IsPair s.heap TI (.ref i1) (.ref i2)) (hTO:IsPair s.heap TO a b) (h1:S1 i s.heap) (h2:S2 i s.heap) (l1:i<=n1) (hi:i=min n1 n2)
  (hE:∀ h' e tk,(∀ c o,c≠z->c≠TO->c≠i1->c≠i2->s.heap.get? c=some o->h'.get? c=some o)->(∃ o,h'.get? e=some o/\o.cls=.type "StopIteration")->E (.ref e) { s with heap:=h',toks:=tk }) :
  wpAny (model prog w) A (Builtin.«zip.__next__» ⟨[.ref z],[]⟩) Q E s:=by
 show wpAny _ _ (field (.ref z) 2 >>= _) _ _ _
 refine wpAny_bind (wpAny_field hz rfl (x:=.bool false) rfl ?_)
 show wpAny _ _ (field (.ref z) 3 >>= _) _ _ _
 refine wpAny_bind (wpAny_field hz rfl (x:=.ref TI) rfl ?_)
 refine wpAny_bind (wpAny_seqItems hTI rfl ?_)
 show wpAny _ _ (Builtin.SmallTypes.ownedTupleIsFree (.ref z) >>= _) _ _ _
 refine wpAny_bind ?_
 unfold Builtin.SmallTypes.ownedTupleIsFree
 refine wpAny_bind (wpAny_field hz rfl (x:=.none) rfl (wpAny_pure ?_))
 simp only [if_true]
 refine wpAny_bind (wpAny_rule ?_)
 refine wpAny_bind (wpAny_field hz rfl (x:=.ref TO) rfl ?_)
 refine wpAny_bind (wpAny_setField_rec hz (by simp) fun g1 hz1 hs1=>?_)
 replace hz1:IsZip g1 z TI TO .ellipsis:=hz1
 refine wpAny_bind ?_
 simp only [List.zipIdx_cons,List.zipIdx_nil,List.forIn_cons,List.forIn_nil]
 refine wpAny_bind (wpAny_bind (wpAny_onRaise ?_))
 show wpAny _ _ (Builtin.SmallTypes.nextOf (.ref i1) >>= _) _ _ _
 have hA:S1 i g1:=Draws.same D1 h1 hs1.extBut Z.zf1
 by_cases hlt:i < n1
 ·have hn2:i=n2:=by omega
  refine wpAny_bind (D1.item i _ _ _ hlt hA fun x g2 tk2 px cJ hs2=>wpAny_pure ?_)
  have hTO2:IsPair g2 TO a b:=hs2.extBut _ _ Z.TOi1 (hs1.extBut _ _ Z.TOz hTO)
  refine wpAny_bind (wpAny_seqItems hTO2 rfl ?_)
  refine wpAny_bind (wpAny_updateSeq_pair hTO2 fun g3 hTO3 hs3=>?_)
  refine wpAny_bind (wpAny_letGo (wpAny_pure ?_))
  refine wpAny_bind (wpAny_bind (wpAny_onRaise ?_))
  show wpAny _ _ (Builtin.SmallTypes.nextOf (.ref i2) >>= _) _ _ _
  refine wpAny_bind (D2.done _ _ _ (hn2 ▸ Draws.same D2 (Draws.same D2 (Draws.same D2 h2 hs1.extBut Z.zf2) hs2.extBut Z.if2) hs3.extBut Z.Tf2) fun g4 e hs4 he=>?_)
  obtain ⟨oe,hoe,hce⟩:=he
  have hz4:IsZip g4 z TI TO .ellipsis:=hs4 _ _ Z.i2z.symm (hs3.extBut _ _ Z.TOz.symm (hs2.extBut _ _ Z.i1z.symm hz1))
  have hez:e≠z:=fun x=>by subst x;rw [hz4] at hoe;cases hoe;simp at hce
  exact wpAny_setField_rec hz4 (by simp) fun g5 _ hs5=>hE g5 e _ (fun c o c1 c2 c3 c4 x=>hs5.extBut _ _ c1 (hs4 _ _ c4 (hs3.extBut _ _ c2 (hs2.extBut _ _ c3 (hs1.extBut _ _ c1 x))))) ⟨oe,hs5.extBut _ _ hez hoe,hce⟩
 ·have hn1:i=n1:=by omega
  refine wpAny_bind (D1.done _ _ _ (hn1 ▸ hA) fun g2 e hs2 he=>?_)
  obtain ⟨oe,hoe,hce⟩:=he
  have hz2:IsZip g2 z TI TO .ellipsis:=hs2 _ _ Z.i1z.symm hz1
  have hez:e≠z:=fun x=>by subst x;rw [hz2] at hoe;cases hoe;simp at hce
  exact wpAny_setField_rec hz2 (by simp) fun g3 _ hs3=>hE g3 e _ (fun c o c1 _ c3 _ x=>hs3.extBut _ _ c1 (hs2 _ _ c3 (hs1.extBut _ _ c1 x))) ⟨oe,hs3.extBut _ _ hez hoe,hce⟩
theorem Bm (Z:Zp z TI TO i1 i2 f1 f2) (D1:Draws prog w A.in1 i1 f1 n1 P1 S1) (D2:Draws prog w A.in1 i2 f2 n2 P2 S2) {Q:Option Value->Shared->Prop}
  (hz:IsZip s.heap z TI TO .none) (hTI:IsPair s.heap TI (.ref i1) (.ref i2)) (hTO:IsPair s.heap TO a b) (h1:S1 i s.heap) (h2:S2 i s.heap) (l1:i < n1) (l2:i < n2)
  (hQ:∀ x y h' tk,P1 i x->P2 i y->IsZip h' z TI TO (rawInt s.heap.objs.size)->IsPair h' TO x y->S1 (i + 1) h'->S2 (i + 1) h'->IsPair h' s.heap.objs.size x y ->
   (∀ c o,c≠z->c≠TO->c≠i1->c≠i2->s.heap.get? c=some o->h'.get? c=some o)->Q (some (.ref s.heap.objs.size)) { s with heap:=h',toks:=tk }) :
  wpAny (model prog w) A (pyNext (.ref z)) Q E s:=by
 have hT:s.TypeIs (.ref z) "zip":=⟨_,hz,rfl⟩
 unfold pyNext
 exact wpAny_bind (wpAny_attempt (wpAny_callSpecial?_slot (name:=Str.ofString "__next__") hT PySem.F.slot_zip_next
  (wpAny_call_entry PySem.F.slot_zip_next hT PySem.F.entry_zip_next
   (JP Z D1 D2 hz hTI hTO h1 h2 l1 l2 fun x y h' tk a1 a2 a3 a4 a5 a6 a7 a8=>wpAny_pure (hQ x y h' tk a1 a2 a3 a4 a5 a6 a7 a8)) (PySem.F.args_zip_next_1 _))))
theorem Dh (Z:Zp z TI TO i1 i2 f1 f2) (D1:Draws prog w A.in1 i1 f1 n1 P1 S1) (D2:Draws prog w A.in1 i2 f2 n2 P2 S2) {Q:Option Value->Shared->Prop}
  (hz:IsZip s.heap z TI TO .none) (hTI:IsPair s.heap TI (.ref i1) (.ref i2)) (hTO:IsPair s.heap TO a b) (h1:S1 i s.heap) (h2:S2 i s.heap) (l1:i<=n1) (hi:i=min n1 n2)
  (hQ:∀ h' tk,(∀ c o,c≠z->c≠TO->c≠i1->c≠i2->s.heap.get? c=some o->h'.get? c=some o)->Q none { s with heap:=h',toks:=tk }):wpAny (model prog w) A (pyNext (.ref z)) Q E s:=by
 have hT:s.TypeIs (.ref z) "zip":=⟨_,hz,rfl⟩
 unfold pyNext
 refine wpAny_bind (wpAny_attempt (wpAny_callSpecial?_slot (name:=Str.ofString "__next__") hT PySem.F.slot_zip_next
  (wpAny_call_entry PySem.F.slot_zip_next hT PySem.F.entry_zip_next (NR Z D1 D2 hz hTI hTO h1 h2 l1 hi fun h' e tk hk he=>?_) (PySem.F.args_zip_next_1 _))))
 obtain ⟨o,ho,hc⟩:=he
 refine wpAny_bind (wpAny_isInstance (T:="StopIteration") (b:=true) ⟨o,ho,hc⟩ isSubtype_stop ?_)
 exact wpAny_pure (hQ _ _ hk)
end
def OP (f g:Bool) (K:PySem.W.Frag) (a c:Addr):It :=
  ⟨fun i H=>∃ xs ys x y,oY f K H a xs/\oY g K H c ys/\xs[i]?=some x/\ys[i]?=some y,
   fun i H v H'=>∃ p x y,(∀ xs,oY f K H a xs->xs[i]?=some x)/\(∀ ys,oY g K H c ys->ys[i]?=some y)/\H p=none/\v=.ref p/\H'=upd H p (.tup [x,y]),
   fun i H=>∃ xs ys,oY f K H a xs/\oY g K H c ys/\i=min xs.length ys.length⟩
theorem Mc {f g:Bool} {h:Heap} {z TI TO i1 i2 a c:Addr} {f0 u v:Value} {k1 k2:Nat} {xs ys:Array Value} (hz:IsZip h z TI TO f0) (q:TI≠TO/\i1≠i2/\TO≠a/\TO≠c) (hTI:IsPair h TI (.ref i1) (.ref i2)) (hTO:IsPair h TO u v)
  (h1:mB f h i1 a k1) (h2:mB g h i2 c k2) (ha:kI f h a xs) (hc:kI g h c ys):Zp z TI TO i1 i2 [i1,a] [i2,c]:=by
 have iz:=fun {r:Bool} {i x:Addr} {k:Nat} (p:mB r h i x k)=>let ⟨_,e,c,_⟩:=p.obj;kR e hz c rfl (by cases r <;> decide)
 have az:=fun {r:Bool} {x:Addr} {xs:Array Value} (p:kI r h x xs)=>let ⟨_,_,e,c,_⟩:=p.obj;kR e hz c rfl (by cases r <;> decide)
 have ti:=fun {r:Bool} {i x t:Addr} {u v:Value} {k:Nat} (w:IsPair h t u v) (p:mB r h i x k)=>let ⟨_,e,c,_⟩:=p.obj;kR w e rfl c (by cases r <;> decide)
 refine ⟨kR hTI hz rfl rfl (by decide),kR hTO hz rfl rfl (by decide),iz h1,iz h2,q.1,ti hTI h1,ti hTI h2,ti hTO h1,ti hTO h2,q.2.1,?_,?_,?_,?_,?_,?_⟩ <;> simp only [List.mem_cons,List.not_mem_nil,or_false,not_or]
 ·exact ⟨(iz h1).symm,(az ha).symm⟩
 ·exact ⟨(iz h2).symm,(az hc).symm⟩
 ·exact ⟨ti hTO h1,q.2.2.1⟩
 ·exact ⟨ti hTO h2,q.2.2.2⟩
 ·exact ⟨q.2.1,(hc.ne h1).symm⟩
 ·exact ⟨q.2.1.symm,(ha.ne h2).symm⟩
theorem JC {P:Program} {w:World} {K:PySem.W.Frag} {elts:List Expr} {kk:Nat} {pos:Pos} (f g:Bool) (a c z TI TO i1 i2:Addr) (q:TI≠TO/\i1≠i2/\TO≠a/\TO≠c) :
  Turn P w K (.Tuple elts kk pos) (OP f g K a c) [z,TI,TO,i1,i2] z (fun i h=>IsZip h z TI TO .none/\IsPair h TI (.ref i1) (.ref i2)/\(∃ u v,IsPair h TO u v)/\mB f h i1 a i/\mB g h i2 c i) where
 mem:=by simp
 obj:=fun i h st b hb=>by
  obtain ⟨hz,hTI,⟨u,v,hTO⟩,h1,h2⟩:=st
  obtain ⟨o1,e1,c1,d1⟩:=h1.obj
  obtain ⟨o2,e2,c2,d2⟩:=h2.obj
  have:b=z\/b=TI\/b=TO\/b=i1\/b=i2:=by simpa using hb
  rcases this with rfl | rfl | rfl | rfl | rfl
  ·exact ⟨_,hz,fun v x=>by
    have x':Data.fields _=Data.cell v:=x
    cases x'⟩
  ·exact ⟨_,hTI,fun v x=>by
    have x':Data.seq _ _=Data.cell v:=x
    cases x'⟩
  ·exact ⟨_,hTO,fun v x=>by
    have x':Data.seq _ _=Data.cell v:=x
    cases x'⟩
  ·exact ⟨_,e1,fun v x=>by rw [d1] at x;cases x⟩
  ·exact ⟨_,e2,fun v x=>by rw [d2] at x;cases x⟩
 keep:=fun i h h' st k=>let ⟨hz,hTI,⟨u,v,hTO⟩,h1,h2⟩:=st
  ⟨k z (by simp) _ hz,k TI (by simp) _ hTI,⟨u,v,k TO (by simp) _ hTO⟩,h1.at fun o e=>k i1 (by simp) o e,h2.at fun o e=>k i2 (by simp) o e⟩
 item:=by
  intro X hP hw hK hc i pins s σ H E I hf st hg
  subst hP hw hK
  obtain ⟨hz,hTI,⟨u,v,hTO⟩,h1,h2⟩:=st
  obtain ⟨xs,ys,x,y,hqx,hqy,hx,hy⟩:=hg
  obtain ⟨its,rv,p,_⟩:=xW I hqx
  obtain ⟨its',rv',p',_⟩:=xW I hqy
  obtain ⟨x',hu,ru⟩:=rv.get hx
  obtain ⟨y',hu',ru'⟩:=rv'.get hy
  have Z:=Mc hz q hTI hTO h1 h2 p p'
  have n1:a≠i1:=p.ne h1
  have n2:c≠i2:=p'.ne h2
  have hd:X.A.in1.handled=none:=I.ok.hd hc
  have lt1:i < its.toArray.size:=by
   have:=(List.getElem?_eq_some_iff.mp hu).1
   simpa using this
  have lt2:i < its'.toArray.size:=by
   have:=(List.getElem?_eq_some_iff.mp hu').1
   simpa using this
  refine Bm Z (nF f hd i1 a n1 its.toArray) (nF g hd i2 c n2 its'.toArray) hz hTI hTO ⟨h1,p⟩ ⟨h2,p'⟩ lt1 lt2 fun x1 y1 h' tk px py hz' hTO' s1 s2 hT hk=>?_
  refine ⟨_,rfl,wpAny_letOwnedTupleGo_zip (s:={ s with heap:=h',toks:=tk }) hz' fun h'' hz'' hs''=>?_⟩
  have ex:x1=x':=by
   have h3:its[i]?=some x1:=by simpa using px
   rw [hu] at h3;exact (Option.some.inj h3).symm
  have ey:y1=y':=by
   have h3:its'[i]?=some y1:=by simpa using py
   rw [hu'] at h3;exact (Option.some.inj h3).symm
  subst ex ey
  have lt:∀ {b o},s.heap.get? b=some o->s.heap.objs.size≠b:=fun e=>Nat.ne_of_gt (Heap.lt_size e)
  have hTT:iO h'' s.heap.objs.size #[x1,y1]:=⟨_,hs''.extBut _ _ (lt hz) hT,rfl,rfl,_,rfl⟩
  refine ⟨.ref s.heap.objs.size,upd H s.heap.objs.size (.tup [x,y]),rL (s:=s) (h':=h'') (tk:=tk) (ch:=[z,TI,TO,i1,i2]) I hf (fun b o hb e=>?_) (Nat.le_refl _) ⟨by show 2<=sizeLine;decide,[x1,y1],.cons ru (.cons ru' .nil),hTT⟩,rfl,
   ⟨s.heap.objs.size,x,y,fun zs hz=>by rw [<- Qx I hqx hz];exact hx,fun zs hz=>by rw [<- Qx I hqy hz];exact hy,I.hok.fresh (Nat.le_refl _),rfl,rfl⟩,⟨hz'',?_,?_,?_,?_⟩,fun b hb=>?_⟩
  ·have hb':¬ (b=z\/b=TI\/b=TO\/b=i1\/b=i2):=by simpa using hb
   simp only [not_or] at hb'
   exact hs''.extBut _ _ hb'.1 (hk b o hb'.1 hb'.2.2.1 hb'.2.2.2.1 hb'.2.2.2.2 e)
  ·exact hs''.extBut _ _ Z.TIz (hk _ _ Z.TIz Z.TITO Z.TIi1 Z.TIi2 hTI)
  ·exact ⟨_,_,hs''.extBut _ _ Z.TOz hTO'⟩
  ·exact s1.1.at fun o e=>hs''.extBut _ _ Z.i1z e
  ·exact s2.1.at fun o e=>hs''.extBut _ _ Z.i2z e
  ·rw [bL (fun e=>?_)]
   ·exact (hf b hb).1
   ·have:b=z\/b=TI\/b=TO\/b=i1\/b=i2:=by simpa using hb
    obtain ⟨o1,e1,_⟩:=h1.obj
    obtain ⟨o2,e2,_⟩:=h2.obj
    rcases this with rfl | rfl | rfl | rfl | rfl
    ·exact lt hz e.symm
    ·exact lt hTI e.symm
    ·exact lt hTO e.symm
    ·exact lt e1 e.symm
    ·exact lt e2 e.symm
 done:=by
  intro X hP hw hK hc i pins s σ H E I hf st hg
  subst hP hw hK
  obtain ⟨hz,hTI,⟨u,v,hTO⟩,h1,h2⟩:=st
  obtain ⟨xs,ys,hqx,hqy,hi⟩:=hg
  obtain ⟨its,rv,p,_⟩:=xW I hqx
  obtain ⟨its',rv',p',_⟩:=xW I hqy
  have Z:=Mc hz q hTI hTO h1 h2 p p'
  have n1:a≠i1:=p.ne h1
  have n2:c≠i2:=p'.ne h2
  have hd:X.A.in1.handled=none:=I.ok.hd hc
  have hi':i=min its.toArray.size its'.toArray.size:=by rw [List.size_toArray,List.size_toArray,<- rv.length,<- rv'.length];exact hi
  refine Dh Z (nF f hd i1 a n1 its.toArray) (nF g hd i2 c n2 its'.toArray) hz hTI hTO ⟨h1,p⟩ ⟨h2,p'⟩ (by omega) hi' fun h' tk hk=>⟨rfl,?_⟩
  have kk:∀ b o,b ∉ [z,TI,TO,i1,i2]->s.heap.get? b=some o->h'.get? b=some o:=fun b o hb e=>by
   have hb':¬ (b=z\/b=TI\/b=TO\/b=i1\/b=i2):=by simpa using hb
   simp only [not_or] at hb'
   exact hk b o hb'.1 hb'.2.2.1 hb'.2.2.2.1 hb'.2.2.2.2 e
  have:=I.call' (ch:=[z,TI,TO,i1,i2]) (H':=H) (s':={ s with heap:=h',toks:=tk }) rfl ⟨fun b u q n hb hx=>kk b u hx q,fun b u q n hb hx=>⟨u.slots,kk b u hx q⟩,fun b u q n hx=>n,fun b u q hx=>⟨u,kk b u hx q⟩,fun b xs q=>q,fun b u xs q=>q,fun b ps q=>⟨#[],by rw [q];simp⟩⟩
   (fun a u e'=>?_) I.bare fun b hb=>⟨(hf b hb).2.2.2.1,(hf b hb).2.1,(hf b hb).2.2.2.2.1,(hf b hb).2.2.2.2.2⟩
  ·exact this
  ·refine (I.hok a u e').stay (fun b z hb q=>kk b z (fun hc=>?_) q) (fun _ q=>q) fun _ _ q=>q
   have hnone:=(hf b hc).1
   rcases hb with rfl | hb
   ·rw [hnone] at e';cases e'
   ·rw [hnone] at hb;cases hb
 self:=fun _ _ _ _ _ st h=>wpAny_pyIter_zip st.1 h
abbrev L5 (f:Bool) (h:Heap) (a:Addr):Heap:=h.push { cls:=.type (tR f),data:=.fields #[.ref a,.int 0 0] }
abbrev LX (f g:Bool) (h:Heap) (a c:Addr):Heap:=(L5 f h a).push { cls:=.type (tR g),data:=.fields #[.ref c,.int 0 0] }
abbrev L9 (f g:Bool) (h:Heap) (a c:Addr):Heap:=(LX f g h a c).push { cls:=.type "tuple",data:=.seq #[.ref h.objs.size,.ref (L5 f h a).objs.size] }
abbrev Ma (f g:Bool) (h:Heap) (a c:Addr):Heap:=(L9 f g h a c).push { cls:=.type "tuple",data:=.seq #[.none,.none] }
abbrev EK (f g:Bool) (h:Heap) (a c:Addr):Heap:=(Ma f g h a c).push { cls:=.type "zip",data:=.fields #[.none,.bool false,.bool false,.ref (LX f g h a c).objs.size,.ref (L9 f g h a c).objs.size] }
theorem kI.push {f:Bool} {h:Heap} {a:Addr} {xs:Array Value} (p:kI f h a xs) (o:Obj):kI f (h.push o) a xs:=by
 obtain ⟨o',n,e,c,d⟩:=p.obj
 cases f <;> exact ⟨o',Heap.get?_push_of_some _ e,c,n,d⟩
theorem Ia {prog:Program} {w:World} {A:Around} {E:Value->Shared->Prop} {s:Shared} {f:Bool} {l:Addr} {items:Array Value} {Q:Value->Shared->Prop} (hl:kI f s.heap l items)
  (hQ:Q (.ref s.heap.objs.size) { s with heap:=s.heap.push { cls:=.type (tR f),data:=.fields #[.ref l,.int 0 0] } }):wpAny (model prog w) A (pyIter (.ref l)) Q E s:=by
 cases f
 ·exact wpAny_pyIter_tuple hl hQ
 ·exact wpAny_pyIter_list hl hQ
theorem GA (f g:Bool) (a c:Addr) (xs ys:Array Value) :
  Meets (Builtin.«zip.__new__» ⟨[.type "zip",.ref a,.ref c],[]⟩) (fun _ R s=>kI f s.heap a xs/\kI g s.heap c ys /\
   R (.ok (.ret (.ref (Ma f g s.heap a c).objs.size))) { s with heap:=EK f g s.heap a c }) :=
 .of_wp fun prog w A R s h=>by
  obtain ⟨hp,g',d,tk,os⟩:=s;obtain ⟨h1,h2,h⟩:=h
  have hsub:=sub_zip
  have hL1:kI f (Shared.heap ⟨hp,g',d,tk,os⟩) a xs:=h1
  have hL2:kI g (Shared.heap ⟨hp.push { cls:=.type (tR f),data:=.fields #[.ref a,.int 0 0] },g',d,tk,os⟩) c ys:=h2.push _
  wp_walk using Ia hL1,Ia hL2
  exact ⟨_,rfl,h⟩
theorem G6 {f g:Bool} {prog:Program} {w:World} {A:Around} {E:Value->Shared->Prop} {s:Shared} {a c:Addr} {xs ys:Array Value} {Q:Value->Shared->Prop} (h1:kI f s.heap a xs) (h2:kI g s.heap c ys)
  (h:∀ h',IsZip h' (s.heap.objs.size + 4) (s.heap.objs.size + 2) (s.heap.objs.size + 3) .none->IsPair h' (s.heap.objs.size + 2) (.ref s.heap.objs.size) (.ref (s.heap.objs.size + 1)) ->
   IsPair h' (s.heap.objs.size + 3) .none .none->mB f h' s.heap.objs.size a 0->mB g h' (s.heap.objs.size + 1) c 0 ->
   (∀ b o,s.heap.get? b=some o->h'.get? b=some o)->Q (.ref (s.heap.objs.size + 4)) { s with heap:=h' }) :
  wpAny (model prog w) A (call (.type "zip") [.ref a,.ref c]) Q E s:=by
 refine callType_new PySem.F.called_zip (by decide) (PySem.F.typeCall_zip_2 _ _) (PySem.F.newCall_zip_2 _ _) (fun obj=>PySem.F.args_object_init_3 obj _ _) PySem.F.entry_zip_new
  (GA f g a c xs ys) ⟨h1,h2,?_⟩
 have z1:(L5 f s.heap a).objs.size=s.heap.objs.size + 1:=Heap.size_push ..
 have z2:(LX f g s.heap a c).objs.size=s.heap.objs.size + 2:=by rw [Heap.size_push,z1]
 have z3:(L9 f g s.heap a c).objs.size=s.heap.objs.size + 3:=by rw [Heap.size_push,z2]
 have z4:(Ma f g s.heap a c).objs.size=s.heap.objs.size + 4:=by rw [Heap.size_push,z3]
 have g5:(EK f g s.heap a c).get? (Ma f g s.heap a c).objs.size=some _:=Heap.get?_push_size _ rfl
 have g4:(EK f g s.heap a c).get? (L9 f g s.heap a c).objs.size=some _:=Heap.get?_push_of_some _ (Heap.get?_push_size _ rfl)
 have g3:(EK f g s.heap a c).get? (LX f g s.heap a c).objs.size=some _:=Heap.get?_push_of_some _ (Heap.get?_push_of_some _ (Heap.get?_push_size _ rfl))
 have g2:(EK f g s.heap a c).get? (L5 f s.heap a).objs.size=some _:=Heap.get?_push_of_some _ (Heap.get?_push_of_some _ (Heap.get?_push_of_some _ (Heap.get?_push_size _ rfl)))
 have g1:(EK f g s.heap a c).get? s.heap.objs.size=some _:=Heap.get?_push_of_some _ (Heap.get?_push_of_some _ (Heap.get?_push_of_some _ (Heap.get?_push_of_some _ (Heap.get?_push_size _ rfl))))
 show _/\_
 rw [z2,z3,z4] at g5
 rw [z1,z2] at g3
 rw [z3] at g4
 rw [z1] at g2
 rw [z4]
 exact ⟨⟨_,g5,rfl⟩,h _ g5 g3 g4 (.of g1 rfl rfl) (.of g2 rfl rfl) fun b o x =>
  Heap.get?_push_of_some _ (Heap.get?_push_of_some _ (Heap.get?_push_of_some _ (Heap.get?_push_of_some _ (Heap.get?_push_of_some _ x))))⟩
def J6 (f g:Bool) (K:PySem.W.Frag) (ta:TA):TI:=fun σ H R=>ta σ H fun vs H1=>∃ a c,vs=[.ref a,.ref c]/\(∃ xs,oY f K H1 a xs)/\(∃ ys,oY g K H1 c ys)/\R (OP f g K a c) H1
theorem HZ {f g:Bool} {X:Cx} {elts:List Expr} {kk:Nat} {tpos:Pos} {a b:Expr} {ta:TA} {p pos:Pos} (hg:Gl X "zip") (hm:X.mg "zip"=none) (ha:PA X [a,b] ta) (hs:starEach [a,b] X.env=[(false,eval a X.env),(false,eval b X.env)]) (hs2:starEach [b] X.env=[(false,eval b X.env)]) :
  PI X (.Tuple elts kk tpos) (.Call (.Name "zip" p) [a,b] [] pos) (J6 f g X.K ta):=by
 intro pins s σ H R I h
 refine Call_ (rJ I hg hm boot_zip (PyProof.Rows.callWith_type1 (bI (ha pos pins s σ H _ I h) fun us s1 ⟨vs,H1,I1,r1,q1⟩=>?_) (by rw [hs,hs2]) (by rw [hs2];rfl)))
 obtain ⟨a,c,e,⟨xs,hq⟩,⟨ys,hq'⟩,q⟩:=q1
 subst e
 cases r1 with
 | cons r rr =>
  cases rr with
  | cons r' rr =>
   cases rr
   cases r
   cases r'
   obtain ⟨its,rv,p,hz⟩:=xW I1 hq
   obtain ⟨its',rv',p',hz'⟩:=xW I1 hq'
   have la:a < s1.heap.objs.size:=by obtain ⟨_,_,e,_⟩:=p.obj;exact Heap.lt_size e
   have lc:c < s1.heap.objs.size:=by obtain ⟨_,_,e,_⟩:=p'.obj;exact Heap.lt_size e
   refine G6 p p' fun h' hz hTI hTO h1 h2 hk=>?_
   refine wpAny_pyIter_zip (s:={ s1 with heap:=h' }) hz ?_
   have I2:L2.Inv X pins σ H1 { s1 with heap:=h',toks:=s1.toks }:=I1.kept hk
   refine ⟨_,_,_,_,H1,rfl,I2,JC f g a c (s1.heap.objs.size + 4) (s1.heap.objs.size + 2) (s1.heap.objs.size + 3) s1.heap.objs.size (s1.heap.objs.size + 1) ⟨Nat.ne_of_lt (Nat.lt_succ_self _),Nat.ne_of_lt (Nat.lt_succ_self _),Nat.ne_of_gt (Nat.lt_of_lt_of_le la (Nat.le_add_right _ _)),Nat.ne_of_gt (Nat.lt_of_lt_of_le lc (Nat.le_add_right _ _))⟩,⟨hz,hTI,⟨_,_,hTO⟩,h1,h2⟩,fun b hb=>?_,q⟩
   have le:s1.heap.objs.size<=b:=by
    have:b=s1.heap.objs.size + 4\/b=s1.heap.objs.size + 2\/b=s1.heap.objs.size + 3\/b=s1.heap.objs.size\/b=s1.heap.objs.size + 1:=by simpa using hb
    rcases this with e | e | e | e | e <;> rw [e]
    ·exact Nat.le_add_right _ _
    ·exact Nat.le_add_right _ _
    ·exact Nat.le_add_right _ _
    ·exact Nat.le_refl _
    ·exact Nat.le_add_right _ _
   exact I1.fpOk le (I1.hok.fresh le)
def cX:List U->List U->List U
 | u :: us,w :: ws=>.tup [u,w] :: cX us ws
 | _,_=>[]
theorem y0:∀ us ws:List U,(cX us ws).length=min us.length ws.length
 | [],ws=>by simp [cX]
 | _ :: _,[]=>by simp [cX]
 | u :: us,w :: ws=>by simp only [cX,List.length_cons,y0 us ws];omega
theorem y7:∀ {us ws:List U} {i:Nat} {x:U},(cX us ws)[i]?=some x->∃ u w,us[i]?=some u/\ws[i]?=some w/\x=.tup [u,w]
 | [],ws,i,x,h=>by simp [cX] at h
 | _ :: _,[],i,x,h=>by simp [cX] at h
 | u :: us,w :: ws,0,x,h=>by simp [cX] at h;exact ⟨u,w,rfl,rfl,h.symm⟩
 | u :: us,w :: ws,i + 1,x,h=>by
  simp only [cX,List.getElem?_cons_succ] at h ⊢
  exact y7 h
theorem Dv {f g:Bool} {K:PySem.W.Frag} {a c:Addr} {us ws:List U} {vs xs:List V} {H:Hp} {M:aF} (m:Ic f K H M a vs) (m':Ic g K H M c xs) (r:aJ K H M us vs) (r':aJ K H M ws xs):Walk K (OP f g K a c) ⟨none,cX us ws⟩ H M:=by
 refine ⟨fun H1 M1 s rm _ i u e=>?_,fun H1 M1 s rm _=>⟨vs,xs,m _ _ s,m' _ _ s,by show (cX us ws).length=_;rw [y0,r.length,r'.length]⟩⟩
 obtain ⟨u,w,e1,e1',rfl⟩:=y7 e
 obtain ⟨v,e2,ru⟩:=r.get e1
 obtain ⟨x,e2',ru'⟩:=r'.get e1'
 refine ⟨⟨vs,xs,v,x,m _ _ s,m' _ _ s,e2,e2'⟩,fun y H2 y'=>?_⟩
 obtain ⟨p,v',x',y1,y2,hp,rfl,rfl⟩:=y'
 have:=y1 vs (m _ _ s)
 rw [e2] at this;cases this
 have:=y2 xs (m' _ _ s)
 rw [e2'] at this;cases this
 have st:=aR.laid (o:=.tup [v,x]) rm hp
 have rr:aJ K H1 M1 [u,w] [v,x]:=by
  simp only [aJ]
  exact ⟨_,_,rfl,ru.stp s,_,_,rfl,ru'.stp s,rfl⟩
 exact ⟨st,rm.laid hp,xD (rm.no hp) cE (rr.stp st)⟩
def Ad (ta:UA):UI:=fun τ M R=>ta τ M fun us M1=>match us with
 | [.tup us,.tup ws]=>R ⟨none,cX us ws⟩ M1
 | _=>False
theorem NP {K:PySem.W.Frag} {ta:TA} {ta':UA} (h:jK K ta ta'):pW K (J6 false false K ta) (Ad ta'):=fun σ τ H M R' rs rm q R c=>h σ τ H M _ rs rm q _ fun us vs M1 H1 s1 rm1 ru h1=>by
 split at h1
 ·obtain ⟨v,vs',rfl,a,b⟩:=ru.inv_cons
  obtain ⟨v2,rfl,a2⟩:=b.one
  simp only [aM] at a a2
  obtain ⟨a,vs,rfl,m,r⟩:=a
  obtain ⟨a',vs',rfl,m',r'⟩:=a2
  exact ⟨a,a',rfl,⟨vs,HP m _ _ (aR.refl _ _)⟩,⟨vs',HP m' _ _ (aR.refl _ _)⟩,c _ _ M1 H1 s1 rm1 (Dv (HP m) (HP m') r r') h1⟩
 ·exact h1.elim
theorem Pp {D:Dat} {elts:List Expr} {kk:Nat} {tpos:Pos} {a b:Expr} {p pos:Pos} {ta:UA} (hm:D.mg "zip"=none) (ha:kQ D [a,b] ta) (hg:D.sc.names.lookup ("zip":Str)=some .globalImplicit:=by rfl) (hs:∀ env,starEach [a,b] env=[(false,eval a env),(false,eval b env)]:=by intro _;rfl) (hs2:∀ env,starEach [b] env=[(false,eval b env)]:=by intro _;rfl):uW D (.Tuple elts kk tpos) (.Call (.Name "zip" p) [a,b] [] pos) (Ad ta):=by
 obtain ⟨_,q,s⟩:=ha
 exact ⟨_,fun X h=>h.K ▸ HZ (by show X.env.scope.names.lookup _=_;rw [h.sc];exact hg) (by rw [h.mg];exact hm) (q X h) (hs _) (hs2 _),NP s⟩
def eR (ta:UA):UI:=fun τ M R=>ta τ M fun us M1=>match us with
 | [.tup us,.lst ws]=>R ⟨none,cX us ws⟩ M1
 | _=>False
def yJ (ta:UA):UI:=fun τ M R=>ta τ M fun us M1=>match us with
 | [.lst us,.lst ws]=>R ⟨none,cX us ws⟩ M1
 | _=>False
theorem Jb {K:PySem.W.Frag} {ta:TA} {ta':UA} (h:jK K ta ta'):pW K (J6 true true K ta) (yJ ta'):=fun σ τ H M R' rs rm q R c=>h σ τ H M _ rs rm q _ fun us vs M1 H1 s1 rm1 ru h1=>by
 split at h1
 ·obtain ⟨v,vs',rfl,a,b⟩:=ru.inv_cons
  obtain ⟨v2,rfl,a2⟩:=b.one
  simp only [aM] at a a2
  obtain ⟨a,vs,rfl,m,r⟩:=a
  obtain ⟨a',vs',rfl,m',r'⟩:=a2
  exact ⟨a,a',rfl,⟨vs,Ir m _ _ (aR.refl _ _)⟩,⟨vs',Ir m' _ _ (aR.refl _ _)⟩,c _ _ M1 H1 s1 rm1 (Dv (Ir m) (Ir m') r r') h1⟩
 ·exact h1.elim
theorem Dk {D:Dat} {elts:List Expr} {kk:Nat} {tpos:Pos} {a b:Expr} {p pos:Pos} {ta:UA} (hm:D.mg "zip"=none) (ha:kQ D [a,b] ta) (hg:D.sc.names.lookup ("zip":Str)=some .globalImplicit:=by rfl) (hs:∀ env,starEach [a,b] env=[(false,eval a env),(false,eval b env)]:=by intro _;rfl) (hs2:∀ env,starEach [b] env=[(false,eval b env)]:=by intro _;rfl):uW D (.Tuple elts kk tpos) (.Call (.Name "zip" p) [a,b] [] pos) (yJ ta):=by
 obtain ⟨_,q,s⟩:=ha
 exact ⟨_,fun X h=>h.K ▸ HZ (by show X.env.scope.names.lookup _=_;rw [h.sc];exact hg) (by rw [h.mg];exact hm) (q X h) (hs _) (hs2 _),Jb s⟩
end U2
namespace U2
open PySem PySem.Spec PyProof.Rows L2
theorem Bs (l:Addr) (items:Array Value) (n:Nat) (b:Addr) (items2:Array Value) (n2:Nat) (dd:Option Addr) (sl:Array (Option Value)) (hc0:¬(!items.isEmpty && Builtin.List.listTooLong (items.size + items2.size))=true) (hc1:items.size<=sizeLine) (hs2:items.size + items2.size<=sizeLine + 1) :
  Meets (Builtin.«list.extend» ⟨[.ref l,.ref b],[]⟩) (fun _ R s=>s.heap.get? l=some { cls:=.type "list",dict:=none,data:=.seq items n,slots:=#[] }/\s.heap.get? b=some { cls:=.type "list",dict:=dd,data:=.seq items2 n2,slots:=sl }/\R (.ok (.ret Value.none)) { s with heap:=s.heap.update l (Obj.mapSeq fun x=>x++items2),toks:=s.toks }) :=
 .of_wp fun prog w A R s h=>by
  obtain ⟨hp,g,d,tk,os⟩:=s;obtain ⟨hl,hb,h⟩:=h
  have f1:=PySem.AutoSeq1.idx_int;have f2:=PySem.AutoSeq1.sub_tuple_tuple;have f3:=PySem.AutoSeq1.sub_list_list;have f4:=PySem.AutoSeq1.sub_tuple_list;have f5:=PySem.AutoSeq1.sub_list_tuple
  have hz':(items++items2).size<=sizeLine + 1:=by rw [Array.size_append];exact hs2
  wp_walk using (wpAny_updateSeq hl rfl (hz:=hc1) (_hz':=hz')),wpAny_loadPart' hl,wpAny_loadPart' hb
  exact ⟨_,rfl,h⟩
theorem FD {X:Cx}:LO X "list.extend" (De X.K):=by
 intro pins s σ H x vs v us Q I rx rv h
 obtain ⟨l,b,xs,zs,rfl,rfl,hH,hB,hz,q⟩:=h
 cases rx
 obtain ⟨u,rfl,ru⟩:=rv.one
 cases ru
 obtain ⟨z,its,n,r,hl,e⟩:=I.lstM hH
 obtain ⟨its2,r2,⟨⟨oc,od,odt,osl⟩,n2,e2,hc,hd,hdt⟩,hl2⟩:=I.list hB
 have hc':oc=.type "list":=hc
 have hdt':odt=.seq its2.toArray n2:=hdt
 subst hc' hdt'
 have l2:=r2.length
 have hsz:its.toArray.size + its2.toArray.size<=sizeLine:=by rw [List.size_toArray,List.size_toArray];omega
 have hlong:¬ (!its.toArray.isEmpty && Builtin.List.listTooLong (its.toArray.size + its2.toArray.size))=true:=by
  rw [CS hsz,Bool.and_false]
  exact Bool.false_ne_true
 refine call_meets PySem.F.slot_list_extend ⟨_,e,rfl⟩ PySem.F.entry_list_extend (PySem.F.args_list_extend_2 _ _)
  (Bs l its.toArray n b its2.toArray n2 od osl hlong (by rw [List.size_toArray];omega) (by omega)) ⟨e,e2,?_⟩
 refine ⟨.non,_,I.lset (its':=its++its2) hH e (by simp) (r.append r2) ?_,rfl,q⟩
 rw [List.length_append]
 omega
variable {D:Dat} {o e:Expr} {ta:UE} {tas:UA} {pos:Pos}
theorem AL {apos:Pos} (ho:aY D o ta) (ha:kQ D [e] tas) (hbase:∀ env,attributeBase o "extend" env (eval o env)=eval o env:=by intro _;rfl)
  (hfew:∀ env,((backTo pos (starEach [e] env)).all (fun x=>!x.1) && (backToKw pos (keywordEach [] env)).all (fun x=>x.1.isSome) && decide ([e].length + ([]:List Keyword).length + (if ([]:List Keyword).isEmpty then 0 else 1) < 30))=true:=by intro _;rfl)
  (hline:(apos.endLine == pos.line)=true:=by rfl) (hs:∀ env,starEach [e] env=[(false,eval e env)]:=by intro _;rfl):aY D (.Call (.Attribute o "extend" apos) [e] [] pos) (Bd nQ ta tas):=by
 obtain ⟨_,p,s⟩:=ho;obtain ⟨_,q,r⟩:=ha
 refine ⟨_,fun X h=>?_,CW Fb s r⟩
 have:=FR (cpos:=pos) (apos:=apos) PySem.F.plainAttrs_list PySem.F.slot_list_extend PySem.F.type_list_extend FD (p X h) (q X h) (hbase _) (hfew _) hline (hs _) (by rfl)
 rw [h.K] at this
 exact this
end U2
namespace U2
open PySem PySem.Spec PyProof.Rows L2
def intsOf:List U->Option (List Int)
 | []=>some []
 | .int i :: us=>(intsOf us).map (i :: ·)
 | _ :: _=>none
theorem mO {K:PySem.W.Frag} {H:Hp} {M:aF}:∀ {us:List U} {vs:List V} {xs:List Int},aJ K H M us vs->intsOf us=some xs->vs=xs.map V.int
 | [],vs,xs,r,e=>by cases e;exact r.inv_nil
 | u :: us,vs,xs,r,e=>by
  obtain ⟨v,vs',rfl,a,b⟩:=r.inv_cons
  cases u with
  | int i =>
   simp only [intsOf] at e
   cases e2:intsOf us with
   | none=>rw [e2] at e;cases e
   | some ys=>rw [e2] at e;cases e;rw [a.int,mO b e2];rfl
  | _=>cases e
def zX:dQ:=fun x y M Q=>match x,y with
 | .int i,.int j=>Q (.bl (decide (i < j))) M
 | .tup us,.tup ws=>∃ xs ys,intsOf us=some xs/\intsOf ws=some ys/\Q (.bl (HT.lexLt xs ys)) M
 | _,_=>False
variable {D:Dat}
theorem pD:oH D .Lt zX:=⟨⟨_,fun X h=>h.K ▸ Q9.or (PF h.room.units0),fun x y u w H M Q' rm ru rw h Q c=>by
 unfold zX at h
 split at h
 ·rename_i i j
  exact .inl (qC (f:=fun i j=>decide (i < j)) x y (.int i) (.int j) H M Q' rm ru rw h Q c)
 ·rename_i us ws
  obtain ⟨xs,ys,e1,e2,q⟩:=h
  obtain ⟨a,vs,rfl,s1,r1⟩:=ru.tup
  obtain ⟨a',vs',rfl,s2,r2⟩:=rw.tup
  cases mO r1 e1
  cases mO r2 e2
  exact .inr ⟨a,a',xs,ys,rfl,rfl,s1,s2,c.here rm fL q⟩
 ·exact h.elim⟩⟩
end U2
namespace U2
open PySem PySem.Spec PyProof.Rows L2
def oQ:Int->List Int->Int
 | m,[]=>m
 | m,n :: ns=>oQ (if n > m then n else m) ns
theorem Eb:∀ (ns:List Int) (m:Int),m<=oQ m ns/\∀ n∈ns,n<=oQ m ns
 | [],m=>⟨Int.le_refl _,fun n h=>by cases h⟩
 | k :: ns,m=>by
  obtain ⟨h1,h2⟩:=Eb ns (if k > m then k else m)
  have hk:m<=(if k > m then k else m)/\k<=(if k > m then k else m):=by split <;> omega
  simp only [oQ]
  refine ⟨by omega,fun n hn=>?_⟩
  rcases List.mem_cons.mp hn with rfl | hn
  ·omega
  ·exact h2 n hn
theorem Cj:∀ (ns:List Int) (m:Int),oQ m ns=m\/oQ m ns∈ns
 | [],m=>.inl rfl
 | k :: ns,m=>by
  simp only [oQ]
  rcases Cj ns (if k > m then k else m) with h | h
  ·by_cases hk:k > m
   ·rw [if_pos hk] at h ⊢;exact .inr (by rw [h];exact List.mem_cons_self)
   ·rw [if_neg hk] at h ⊢;exact .inl h
  ·exact .inr (List.mem_cons_of_mem _ h)
theorem Nj {m M:Int} {ns:List Int} (h1:M=m\/M∈ns) (h2:m<=M) (h3:∀ n∈ns,n<=M):oQ m ns=M:=by
 obtain ⟨g1,g2⟩:=Eb ns m
 rcases Cj ns m with e | e
 ·rcases h1 with rfl | h1
  ·exact e
  ·have:=g2 M h1;omega
 ·have:=h3 _ e
  rcases h1 with rfl | h1
  ·omega
  ·have:=g2 M h1;omega
section
variable {X:Cx}
theorem HX (hc:X.calm=true):jN X (.builtin "max") (fun xs H Q=>∃ p m ns,xs=[.ref p]/\eC X.K H p ((m :: ns).map V.int)/\Q (.int (oQ m ns)) H):=by
 intro pins s σ H xs us Q I r h
 obtain ⟨p,m,ns,rfl,hq,q⟩:=h
 obtain ⟨u,rfl,rx⟩:=vals1 r
 cases rx
 obtain ⟨its,r',pl,hz⟩:=I.list hq
 have hi:IntsAre its (m :: ns):=intsAre_of r'
 obtain ⟨ys,e⟩:=hi.allInts.items
 have hns:(m :: ns)=ys.toList.map (·.1):=by
  rw [<- hi.numsOf,<- nums_intItems,<- e]
 have hsz:0 < ys.size:=by
  have h3:ns.length + 1=ys.size:=by have:=congrArg List.length hns;simpa using this
  omega
 have hl:=pl.isList
 rw [e] at hl
 refine max_intList (I.ok.hd hc) hl hsz fun v h' tk hv hk=>?_
 obtain ⟨t,rfl⟩:=intItems_at hv
 obtain ⟨h1,h2⟩:=argBest_gt (numAt ys) (ys.size - 1)
 have hM:oQ m ns=numAt ys (argBest (fun i j=>decide (numAt ys i > numAt ys j)) (ys.size - 1)):=by
  have hin:numAt ys (argBest (fun i j=>decide (numAt ys i > numAt ys j)) (ys.size - 1))∈m :: ns:=by
   rw [hns,numAt_eq];exact getD_mem (by rw [List.length_map,Array.length_toList];omega)
  have hge:∀ a∈m :: ns,a<=numAt ys (argBest (fun i j=>decide (numAt ys i > numAt ys j)) (ys.size - 1)):=fun a ha=>by
   rw [hns] at ha
   obtain ⟨j,hj,rfl⟩:=mem_getD ha
   rw [List.length_map,Array.length_toList] at hj
   rw [<- numAt_eq];exact h2 j (by omega)
  exact Nj (List.mem_cons.mp hin) (hge m List.mem_cons_self) fun n hn=>hge n (List.mem_cons_of_mem _ hn)
 exact ⟨.int (oQ m ns),H,I.kept hk,⟨t,by rw [hM]⟩,q⟩
def FC:List U->aF->UK->Prop:=fun us M Q=>match us with
 | [x]=>match view M x with
  | .lst ws=>∃ ns,intsOf ws=some ns/\PySem.SumFits ns/\Q (.int ns.sum) M
  | _=>False
 | _=>False
def zQ:List U->aF->UK->Prop:=fun us M Q=>match us with
 | [.int i,.int j]=>Q (.int (if j > i then j else i)) M
 | [x]=>match view M x with
  | .lst ws=>∃ m ns,intsOf ws=some (m :: ns)/\Q (.int (oQ m ns)) M
  | _=>False
 | _=>False
theorem Qq {D:Dat}:A5 D (.builtin "max") zQ:=⟨⟨_,fun X h=>by
  have:=(IZ (X:=X) h.calm).or (HX h.calm);rw [h.K] at this;exact this,fun xs us H M Q' rm rus h Q c=>by
 unfold zQ at h
 split at h
 ·rename_i i j
  obtain ⟨v,z,rfl,a1,a2⟩:=rus.two
  cases a1.int;cases a2.int
  exact .inl ⟨i,j,rfl,c.here rm dE h⟩
 ·rename_i x
  obtain ⟨v,rfl,a1⟩:=rus.one
  split at h
  ·rename_i ws e
   obtain ⟨m,ns,e2,q⟩:=h
   obtain ⟨b,zvs,rfl,s2,r2⟩:=eW rm a1 e
   rw [mO r2 e2] at s2
   exact .inr ⟨b,m,ns,rfl,s2,c.here rm dE q⟩
  ·exact h.elim
 ·exact h.elim⟩⟩
end
end U2
namespace U2
open PySem PySem.Spec PyProof.Rows L2
section
variable {D:Dat} {a b c e o i:Expr} {ta tb tc te to ti:UE} {pos p:Pos} {es:List Expr} {tas:UA} {x:Str}
def nS (te to ti:UE):US:=fun D τ M=>te τ M fun v M1=>to τ M1 fun x M2=>ti τ M2 fun y M3=>match x,y with
 | .ref a,.int k=>match M3 a with
  | some (.lst us)=>∃ j,uK us.length k=some j/\D.nx τ (mup M3 a (.lst (us.set j v)))
  | _=>False
 | _,_=>False
theorem rF {tpos:Pos} (he:aY D e te) (ho:aY D o to) (hi:aY D i ti) (hs:∀ env,swapsWithSole [.Subscript o i tpos] e pos.line env=pure false:=by intro _;rfl) (hw:∀ env,swappedStores [.Subscript o i tpos] e env=pure none:=by intro _;rfl)
  (h1:∀ env,(assignEach [.Subscript o i tpos] env).map (·.2)=[assign (.Subscript o i tpos) env]:=by intro _;rfl)
  (ha:∀ env v,assign (.Subscript o i tpos) env v=(do
   let ov <- holding [v] (eval o env)
   let iv <- holding [v,ov] (eval i env)
   standAt tpos
   holding [v,ov,iv] (setItem ov iv v)
   release [v,ov,iv] []):=by intro _ _;rfl):rO D (.Assign [.Subscript o i tpos] e pos) (nS te to ti):=by
 obtain ⟨_,p1,s1⟩:=he;obtain ⟨_,p2,s2⟩:=ho;obtain ⟨_,p3,s3⟩:=hi
 refine ⟨_,fun X h=>P6 (p1 X h) (O5 (p2 X h) (p3 X h) set_list (ha _)) (hs _) (hw _) (h1 _),fun σ τ H M D' rs rm h EE d=>?_⟩
 refine s1 σ τ H M _ rs rm h _ fun v vv M1 H1 st1 rm1 rv h1=>?_
 refine s2 σ τ H1 M1 _ (rs.stp st1) rm1 h1 _ fun x vx M2 H2 cJ rm2 rx h2=>?_
 refine s3 σ τ H2 M2 _ ((rs.stp st1).stp cJ) rm2 h2 _ fun y vy M3 H3 st3 rm3 ry h3=>?_
 split at h3
 ·rename_i a k
  split at h3
  ·rename_i us e
   obtain ⟨j,hj,q⟩:=h3
   cases (rx.stp st3).ref
   cases ry.int
   obtain ⟨vs,hv,rus⟩:=rm3 a _ e
   have rv3:=(rv.stp cJ).stp st3
   have st4:aR H3 M3 (upd H3 a (.lst (vs.set j vv))) (mup M3 a (.lst (us.set j v))):=aR.write e
   have rnew:RelM D.K (upd H3 a (.lst (vs.set j vv))) (mup M3 a (.lst (us.set j v))):=rm3.put st4 ⟨_,cE,(aJ.set rv3 j rus).stp st4⟩
   refine ⟨a,vs,k,j,rfl,rfl,hv,by rw [<- rus.length];exact hj,?_⟩
   exact d.nx _ _ _ _ (((st1.trans cJ).trans st3).trans st4) rnew ((((rs.stp st1).stp cJ).stp st3).stp st4) q
  ·exact h3.elim
 ·exact h3.elim
def yS:U->List U->aF->UK->Prop:=fun x ws M Q=>match x,ws with
 | .ref a,[.int i]=>match M a with
  | some (.lst us)=>-(2 ^ 63)<=i/\i < 2 ^ 63/\∃ k y,seqIndex? i us.length=some k/\us[k]?=some y/\Q y (mup M a (.lst (us.eraseIdx k)))
  | _=>False
 | _,_=>False
def FV:List U->aF->UK->Prop:=fun us M Q=>match us with
 | [.int i]=>Q (.int i) M
 | [.bl k]=>Q (.int (if k then 1 else 0)) M
 | _=>False
def qE (i j:Int):Prop:=Km i j\/(Builtin.Int.intBits i<=60000000/\Builtin.Int.intBits j<=60000000)
theorem qE.ok {i j:Int} (h:qE i j):IntMulOk i j:=by
 rcases h with h | ⟨h1,h2⟩
 ·exact h.ok
 ·exact IntMulOk.of_le h1 h2 (by decide)
theorem NM {X:Cx}:dA X (binaryOp .Mult) (rI qE fun i j=>.int (i * j)):=LJ fun _ _ _ _ _ _ _ hc q=>mul_int q hc.ok
def jM (z:Str) (n:Int):Str:=if n < 1 then Str.empty else if (n == 1 || z.length == 0)=true then z else ⟨(List.replicate n.toNat z.cps).foldl (·++·) #[]⟩
theorem NN {X:Cx}:dA X (binaryOp .Mult) (fun x y H Q=>∃ z n,x=.str z/\y=.int n/\-(2 ^ 63)<=n/\n < 2 ^ 20/\z.length<=2 ^ 20/\z.length * n.toNat<=100000/\Q (.str (jM z n)) H):=by
 intro pins s σ H x y v u Q I rx ry h
 obtain ⟨z,n,rfl,rfl,h1,h2,h3,h4,q⟩:=h
 obtain ⟨t,rfl⟩:=rx
 obtain ⟨t',rfl⟩:=ry
 have e1:(decide (n < -(2 ^ 63:Int)) || decide (n ≥ 2 ^ 63))=false:=by
  rw [decide_eq_false (by omega),decide_eq_false (by omega)];rfl
 refine PySem.P.mul_str e1 (fun g1 g2=>?_) (fun g1 g2=>?_) ?_
 ·intro hh
  have hn:(1:Int)<=n:=by omega
  have e3:(z.length:Int) * n=((z.length * n.toNat:Nat):Int):=by
   rw [Int.natCast_mul,Int.toNat_of_nonneg (by omega)]
  have:=Int.le_ediv_of_mul_le (show (0:Int) < n by omega) (show (z.length:Int) * n<=2 ^ 63 - 1 by rw [e3];omega)
  omega
 ·unfold Builtin.Str.tooLong sizeLine
  exact decide_eq_false (by omega)
 ·have hq:∀ (t2:Tok) k,EP X pins σ Q (.str (jM z n) t2) { s with toks:=k }:=fun t2 k=>⟨.str (jM z n),H,I.tok k,⟨t2,rfl⟩,q⟩
  unfold jM at hq
  by_cases g1:n < 1
  ·rw [if_pos g1]
   simp only [if_pos g1] at hq
   exact ⟨by decide,hq _ _⟩
  ·rw [if_neg g1]
   simp only [if_neg g1] at hq
   by_cases g2:(n == 1 || z.length == 0)=true
   ·rw [if_pos g2]
    simp only [if_pos g2] at hq
    exact hq t s.toks
   ·rw [if_neg g2]
    simp only [if_neg g2] at hq
    refine ⟨?_,hq _ _⟩
    have hsz:∀ (k:Nat) (acc:Array Nat),((List.replicate k z.cps).foldl (·++·) acc).size=acc.size + k * z.cps.size:=by
     intro k
     induction k with
     | zero=>intro acc;simp
     | succ k ih=>intro acc;rw [List.replicate_succ,List.foldl_cons,ih,Array.size_append,Nat.succ_mul];omega
    show ((List.replicate n.toNat z.cps).foldl (·++·) #[]).size<=sizeLine
    rw [hsz]
    have h5:n.toNat * z.cps.size<=100000:=by rw [Nat.mul_comm];exact h4
    have:(100000:Nat)<=sizeLine:=by decide
    simp only [Array.size_empty,Nat.zero_add]
    omega
def wQ (o:Bool):dQ:=fun x y M Q=>match x,y with
 | .int i,.int j=>qE i j/\Q (.int (i * j)) M
 | .str z,.int n=>-(2 ^ 63)<=n/\n < 2 ^ 20/\z.length<=2 ^ 20/\z.length * n.toNat<=100000/\Q (.str (jM z n)) M
 | .ref a,.int k=>match M a with
  | some (.lst us)=>-(2 ^ 63)<=k/\k < 2 ^ 63/\us.length * k.toNat<=sizeLine/\iH o (List.replicate k.toNat us).flatten M Q
  | _=>False
 | _,_=>False
theorem aJ.rep {K:PySem.W.Frag} {H:Hp} {M:aF} {us:List U} {vs:List V} (r:aJ K H M us vs):∀ k:Nat,aJ K H M (List.replicate k us).flatten (List.replicate k vs).flatten
 | 0=>by simp only [List.replicate_zero,List.flatten_nil];exact .nil
 | k + 1=>by simp only [List.replicate_succ,List.flatten_cons];exact r.append (aJ.rep r k)
theorem MX {K:PySem.W.Frag} {o:Bool}:dJ K (fun x y H Q=>rI qE (fun i j=>.int (i * j)) x y H Q\/((∃ z n,x=.str z/\y=.int n/\-(2 ^ 63)<=n/\n < 2 ^ 20/\z.length<=2 ^ 20/\z.length * n.toNat<=100000/\Q (.str (jM z n)) H)\/PR x y H Q)) (wQ o):=fun x y u w H M Q' rm ru rw h Q c=>by
 unfold wQ at h
 split at h
 ·rename_i i j
  exact .inl (qN (C:=qE) (f:=fun i j=>i * j) x y (.int i) (.int j) H M Q' rm ru rw h Q c)
 ·rename_i z n
  cases ru.str;cases rw.int
  exact .inr (.inl ⟨z,n,rfl,rfl,h.1,h.2.1,h.2.2.1,h.2.2.2.1,c.here rm lL h.2.2.2.2⟩)
 ·rename_i a k
  split at h
  ·rename_i us e
   obtain ⟨vs,hv,r⟩:=rm a _ e
   cases ru.ref;cases rw.int
   exact .inr (.inr ⟨a,k,vs,rfl,rfl,hv,h.1,h.2.1,by rw [<- r.length];exact h.2.2.1,fun p hp=>c.lst rm (r.rep k.toNat) hp h.2.2.2⟩)
  ·exact h.elim
 ·exact h.elim
theorem iS (own:Bool:=false) (ha:aY D a ta) (hb:aY D b tb):aY D (.BinOp a .Mult b pos) (mG (wQ own) ta tb):=sS (fun _ _=>NM.or (NN.or Qm)) MX ha hb
def Mq (_ j:Int):Prop:=0 < j/\j < 2 ^ 64
theorem La {X:Cx}:dA X (binaryOp .FloorDiv) (rI Mq fun i j=>.int (i / j)):=LJ fun i j _ _ _ _ _ hc q=>by
 have h1:(0:Int) < j:=hc.1
 have h2:j.natAbs.log2 < 9000:=by
  have h3:j.natAbs < 2 ^ 64:=by have:=hc.2;omega
  by_cases h:j.natAbs=0
  ·rw [h];decide
  ·have:=(Nat.log2_lt h).mpr h3
   omega
 exact floordiv_int (by omega) (by rw [Int.fdiv_eq_ediv_of_nonneg i (by omega)];exact q) (.inl (PyProof.noPylong_of_log2 h2))
theorem EC (ha:aY D a ta) (hb:aY D b tb):aY D (.BinOp a .FloorDiv b pos) (mG (uI Mq fun i j=>.int (i / j)) ta tb):=sS (fun _ _=>La) qN ha hb
end
end U2
namespace HT
open PySem PySem.Spec PyProof.Rows L2
variable {prog:Program} {w:World} {A:Around} {E:Value->Shared->Prop} {s:Shared}
theorem tV {t sl:Addr} {items:Array Value} {vl vu:Value} {lo hi:Option Int} {Q:Value->Shared->Prop} (ht:IsTup s.heap t items) (hs:s.heap.IsSliceOf sl vl vu .none) (pl:IsPart vl lo) (pu:IsPart vu hi)
  (hw:bK items.size 0 lo=0/\bK items.size items.size hi=items.size)
  (h:Q (.ref t) s):wpAny (model prog w) A (getItem (.ref t) (.ref sl)) Q E s:=by
 obtain ⟨os,hos,hcs,hds⟩:=id hs
 have hTs:s.TypeIs (.ref sl) "slice":=⟨os,hos,hcs⟩
 unfold getItem
 try with_reducible refine wpAny_holding ?_
 first | refine wpAny_bind (wpAny_pure ?_) | skip
 refine wpAny_bind (wpAny_sequenceKey ht.typeIs (by decide) ?_)
 refine wpAny_bind (wpAny_callSpecial?_slot (name:=Str.ofString "__getitem__") ht.typeIs PyProof.Rows.slot_tuple_getitem
  (wpAny_call_entry PyProof.Rows.slot_tuple_getitem ht.typeIs entry_tuple_getitem ?_ (args_tuple_getitem _ _)))
 show wpAny _ _ (Builtin.Tuple.tupleItemsOf (.ref t) >>= _) _ _ s
 refine wpAny_bind (tupleItemsOf_ ht ?_)
 refine wpAny_bind (wpAny_typeOf hTs ?_)
 rw [if_pos (by decide)]
 refine wpAny_bind (pQ hs pl pu ?_)
 have hyes:((((bK items.size 0 lo:Nat):Int) == 0 && (1:Int) == 1 && (bK items.size items.size hi - bK items.size 0 lo) == items.size)=true):=by
  rw [hw.1,hw.2];simp
 show wpAny _ _ (if (((bK items.size 0 lo:Nat):Int) == 0 && (1:Int) == 1 && (bK items.size items.size hi - bK items.size 0 lo) == items.size)=true then _ else _) _ _ s
 rw [if_pos hyes]
 unfold Builtin.Tuple.tupleIsExact
 refine wpAny_bind (wpAny_bind (wpAny_typeOf ht.typeIs (wpAny_pure ?_)))
 rw [if_pos (by decide)]
 refine wpAny_bind (wpAny_rule ?_)
 exact wpAny_pure ⟨_,rfl,wpAny_pure h⟩
end HT
namespace U2
open PySem PySem.Spec PyProof.Rows L2
def P9 (K:PySem.W.Frag):V->Option Int->Option Int->Hp->VK->Prop:=fun x lo hi H Q=>∃ a xs,x=.ref a/\eP K H a xs/\(HT.bK xs.length 0 lo=0/\HT.bK xs.length xs.length hi=xs.length)/\Q (.ref a) H
theorem Ng {X:Cx}:wN X (P9 X.K):=by
 intro pins s σ H x v vl vu lo hi sl Q I rx hs pl pu h
 obtain ⟨a,xs,rfl,hx,hw,q⟩:=h
 cases rx
 obtain ⟨its,r,ht,hz⟩:=I.tuple hx
 have hlen:its.toArray.size=xs.length:=by rw [List.size_toArray];exact r.length.symm
 refine ⟨"tuple",_,PyProof.Rows.slot_tuple_getitem.lookup,ht.typeIs,?_⟩
 refine HT.tV ht hs pl pu (by rw [hlen];exact hw) ⟨.ref a,H,I,rfl,q⟩
def zO (o:Bool) (te:UE) (tl th:UO):UE:=fun τ M Q=>te τ M fun x M1=>tl τ M1 fun l M2=>th τ M2 fun h M3=>match view M3 x with
 | .lst us=>iH o (gE us l h) M3 Q
 | .tup us=>Q (.tup (gE us l h)) M3
 | .str z=>z.length<=sizeLine/\Q (.str (Txt.slice z l h)) M3
 | _=>False
theorem Nq {K:PySem.W.Frag} {o:Bool} {te:TE} {te':UE} {tl th:TO} {tl' th':UO} (h0:bS K te te') (h1:Co K tl tl') (h2:Co K th th'):bS K (RM (fun x lo hi H Q=>PU K x lo hi H Q\/P9 K x lo hi H Q) te tl th) (zO o te' tl' th'):=fun σ τ H M Q' rs rm q Q c =>
 h0 σ τ H M _ rs rm q _ fun u v M1 H1 s1 rm1 ru q1=>h1 σ τ H1 M1 _ (rs.stp s1) rm1 q1 _ fun lo M2 H2 s2 rm2 q2=>h2 σ τ H2 M2 _ ((rs.stp s1).stp s2) rm2 q2 _ fun hi M3 H3 s3 rm3 q3=>by
  have c3:=dH.stp c ((s1.trans s2).trans s3)
  have ru3:=ru.stp (s2.trans s3)
  split at q3
  ·rename_i us e
   obtain ⟨a,xs,rfl,r1,r2⟩:=eW rm3 ru3 e
   exact .inl (.inl ⟨a,xs,rfl,r1,fun p hp=>c3.lst rm3 (Ea r2 lo hi) hp q3⟩)
  ·rename_i us e
   have e':=pO e
   subst e'
   obtain ⟨a,xs,rfl,r1,r2⟩:=ru3.tup
   by_cases hw:HT.bK xs.length 0 lo=0/\HT.bK xs.length xs.length hi=xs.length
   ·refine .inr ⟨a,xs,rfl,r1,hw,c3 _ _ M3 H3 (aR.refl _ _) rm3 ?_ q3⟩
    have e4:gE us lo hi=us:=by
     unfold gE
     rw [r2.length,hw.1,hw.2,List.drop_zero,Nat.sub_zero,<- r2.length,List.take_length]
    rw [e4]
    exact ru3
   ·exact .inl (.inr (.inl ⟨a,xs,rfl,r1,hw,fun p hp=>c3.tup rm3 (Ea r2 lo hi) hp q3⟩))
  ·rename_i z e
   have e':=wX e
   subst e'
   exact .inl (.inr (.inr ⟨z,ru3.str,q3.1,c3 _ _ M3 H3 (aR.refl _ _) rm3 lL q3.2⟩))
  ·exact q3.elim
theorem rR {D:Dat} {a:Expr} {ta:UE} {pos:Pos} (own:Bool:=false) {lo hi:Option Expr} {tl th:UO} {p2:Pos} (ha:aY D a ta) (hl:Mm D lo tl) (hh:Mm D hi th):aY D (.Subscript a (.Slice lo hi none p2) pos) (zO own ta tl th):=by
 obtain ⟨_,p,s⟩:=ha;obtain ⟨_,q,r⟩:=hl;obtain ⟨_,u,v⟩:=hh
 refine ⟨_,fun X h=>?_,Nq s r v⟩
 have:=Kt (pos:=pos) (p2:=p2) (Pw.or Ng) (p X h) (q X h) (u X h)
 rw [h.K] at this
 exact this
end U2
namespace Att
open PySem PySem.Spec PyProof.Rows PySem.W Calls
end Att
namespace L2
open PySem PySem.Spec PyProof.Rows
end L2
namespace U2
open PySem PySem.Spec PyProof.Rows L2
def lZ (ta:UA):UI:=fun τ M R=>ta τ M fun us M1=>match us with
 | [.lst us]=>R ⟨none,us.reverse⟩ M1
 | _=>False
end U2
namespace U2
open PySem PySem.Spec PyProof.Rows L2
section
variable {prog:Program} {w:World} {A:Around} {E:Value->Shared->Prop} {s:Shared}
end
def eI (o:Bool) (ta:UA):UE:=fun τ M Q=>ta τ M fun us M1=>match us with
 | [x]=>match view M1 x with
  | .lst us=>iH o us.reverse M1 Q
  | _=>False
 | _=>False
end U2
namespace U2
open PySem PySem.Spec PyProof.Rows L2
section
variable {prog:Program} {w:World} {A:Around} {E:Value->Shared->Prop} {s:Shared}
end
def eX (te to ti:UE):US:=fun D τ M=>te τ M fun v M1=>to τ M1 fun x M2=>ti τ M2 fun y M3=>match v,x,y with
 | .ref b,.ref l,.int a=>match M3 b,M3 l with
  | some (.lst ws),some (.lst us)=>l≠b/\0<=a/\a<=us.length/\us.length + ws.length<=sizeLine/\D.nx τ (mup M3 l (.lst (us.take a.toNat++ws)))
  | _,_=>False
 | _,_,_=>False
end U2
namespace U2
open PySem PySem.Spec PyProof.Rows L2
end U2
namespace U2
open PySem PySem.Spec PyProof.Rows L2
def fX (o:Bool):List U->aF->UK->Prop:=fun us M Q=>match us with
 | [x]=>match view M x with
  | .lst ws=>∃ ns,intsOf ws=some ns/\ns.length < 64/\∀ ns':List Int,ns'.Perm ns->ns'.Pairwise (·<=·)->iH o (ns'.map U.int) M Q
  | _=>False
 | _=>False
theorem cP.len {K:PySem.W.Frag} {H:Hp}:∀ {ds:List PyData} {vs:List V},cP K H ds vs->ds.length=vs.length
 | [],vs,h=>by simp only [cP] at h;subst h;rfl
 | d :: ds,vs,h=>by
  simp only [cP] at h
  obtain ⟨v,vs',rfl,_,h2⟩:=h
  simp only [List.length_cons,cP.len h2]
theorem cP.at {X:Cx} {pins:List (Addr × Obj)} {σ:L2.St} {H:Hp} {s:Shared} (I:L2.Inv X pins σ H s):∀ {ds:List PyData} {vs:List V} {us:List Value},cP X.K H ds vs->Vals vs us->∀ (j:Nat) (d:PyData) (u:Value),ds[j]?=some d->us[j]?=some u->∃ as,Reads s.heap u d as
 | [],vs,us,h,r,j,d,u,e,_=>by cases e
 | d0 :: ds,vs,us,h,r,j,d,u,e,e'=>by
  simp only [cP] at h
  obtain ⟨v,vs',rfl,h1,h2⟩:=h
  cases r with
  | cons r rr =>
   cases j with
   | zero=>cases e;cases e';exact h1.reads I r
   | succ j=>exact cP.at I h2 rr j d u e e'
def QC (K:PySem.W.Frag) (neg:Bool):R2:=fun x y H Q=>∃ a xs ds d,y=.ref a/\(eC K H a xs\/eP K H a xs)/\cP K H ds xs/\fN K H d x/\PyData.canLayAll0 ds=true/\d.canLay0=true/\d.depth<=60/\Q (.bl (if neg then !ds.any (fun e=>PyData.eqv e d) else ds.any (fun e=>PyData.eqv e d))) H
theorem vE:∀ {ds:List PyData},PyData.canLayAll0 ds=true->∀ d∈ds,d.canLay0=true
 | [],_,d,h=>by cases h
 | a :: ds,hh,d,h=>by
  simp only [PyData.canLayAll0,Bool.and_eq_true] at hh
  rcases List.mem_cons.mp h with rfl | h
  ·exact hh.1
  ·exact vE hh.2 d h
open Classical in
theorem EN {X:Cx} {k:Nat} (hr:dC k X.A) {pins:List (Addr × Obj)} {σ:L2.St} {H:Hp} {s:Shared} (I:L2.Inv X pins σ H s) {ds:List PyData} {vs:List V} {its:List Value} (h:cP X.K H ds vs) (r:Vals vs its) {d:PyData} {x:V} {v:Value} (hd:fN X.K H d x) (rx:RelV x v) (c1:PyData.canLayAll0 ds=true) (c2:d.canLay0=true) (hdep:d.depth<=60) :
  ∃ e:Value->Bool,(∀ y∈its,SeqAt.EqAt X.A.in1 s y v (e y))/\its.any e=ds.any fun d'=>PyData.eqv d' d:=by
 have hl:ds.length=its.length:=by rw [h.len,r.length]
 obtain ⟨bs,rb⟩:=hd.reads I rx
 have key:∀ (j:Nat) (d':PyData) (u:Value),ds[j]?=some d'->its[j]?=some u->SeqAt.EqAt X.A.in1 s u v (PyData.eqv d' d):=fun j d' u e1 e2=>by
  obtain ⟨as,ra⟩:=cP.at I h r j d' u e1 e2
  exact SeqAt.eqAt_reads d' d _ _ _ _ _ _ ra rb (vE c1 d' (List.mem_of_getElem? e1)) c2 (by have:=hr.units;show X.A.units + 1 + _ < _;omega)
 refine ⟨fun u=>decide (∃ (j:Nat) (d':PyData),ds[j]?=some d'/\its[j]?=some u/\PyData.eqv d' d=true),fun y hy=>?_,?_⟩
 ·obtain ⟨j,hj⟩:=List.getElem?_of_mem hy
  have hjl:j < ds.length:=by rw [hl];exact (List.getElem?_eq_some_iff.mp hj).1
  have hdj:ds[j]?=some ds[j]:=List.getElem?_eq_getElem hjl
  dsimp only
  by_cases hh:∃ (j:Nat) (d':PyData),ds[j]?=some d'/\its[j]?=some y/\PyData.eqv d' d=true
  ·rw [decide_eq_true hh]
   obtain ⟨i,d',e1,e2,e3⟩:=hh
   rw [<- e3];exact key i d' y e1 e2
  ·rw [decide_eq_false hh]
   have hf:PyData.eqv ds[j] d=false:=by
    cases hc:PyData.eqv ds[j] d with
    | false=>rfl
    | true=>exact absurd ⟨j,ds[j],hdj,hj,hc⟩ hh
   rw [<- hf];exact key j ds[j] y hdj hj
 ·rw [Bool.eq_iff_iff,List.any_eq_true,List.any_eq_true]
  constructor
  ·rintro ⟨u,hu,he⟩
   obtain ⟨j,d',e1,e2,e3⟩:=of_decide_eq_true he
   exact ⟨d',List.mem_of_getElem? e1,e3⟩
  ·rintro ⟨d',hd',he⟩
   obtain ⟨j,hj⟩:=List.getElem?_of_mem hd'
   have hjl:j < its.length:=by rw [<- hl];exact (List.getElem?_eq_some_iff.mp hj).1
   have hij:its[j]?=some its[j]:=List.getElem?_eq_getElem hjl
   exact ⟨its[j],List.getElem_mem hjl,decide_eq_true ⟨j,d',hj,hij,he⟩⟩
theorem Im {X:Cx} {k:Nat} (hr:dC k X.A):dA X (compareOp .NotIn) (QC X.K true):=by
 intro pins s σ H x y v u Q I rx ry h
 obtain ⟨p,xs,ds,d,rfl,hq,hds,hd,c1,c2,hdep,q⟩:=h
 cases ry
 rcases hq with hq | hq
 ·obtain ⟨its,r,pl,hz⟩:=I.list hq
  obtain ⟨e,he,hany⟩:=EN hr I hds r hd rx c1 c2 hdep
  refine SeqAt.notIn_listAt e pl.isList (fun w hw=>he w (by simpa using hw)) ⟨.bl _,H,I,rfl,?_⟩
  rw [show its.toArray.any e=its.any e by simp,hany]
  exact q
 ·obtain ⟨its,r,pl,hz⟩:=I.tuple hq
  obtain ⟨e,he,hany⟩:=EN hr I hds r hd rx c1 c2 hdep
  refine SeqAt.notIn_tupleAt e pl (fun w hw=>he w (by simpa using hw)) ⟨.bl _,H,I,rfl,?_⟩
  rw [show its.toArray.any e=its.any e by simp,hany]
  exact q
def E9 (neg:Bool):dQ:=fun x y M Q=>∃ us ds d,items M y=some us/\dY us=some ds/\qQ M x=some d/\PyData.canLayAll0 ds=true/\d.canLay0=true/\d.depth<=60/\Q (.bl (if neg then !ds.any (fun e=>PyData.eqv e d) else ds.any (fun e=>PyData.eqv e d))) M
theorem Nh {K:PySem.W.Frag} {neg:Bool}:dJ K (QC K neg) (E9 neg):=fun x y u w H M Q' rm ru rw h Q c=>by
 obtain ⟨us,ds,d,e1,e2,e3,c1,c2,hdep,q⟩:=h
 obtain ⟨p,xs,rfl,hs,rs⟩:=A1 rm rw e1
 exact ⟨p,xs,ds,d,rfl,hs,m9 rs e2,rU rm ru e3,c1,c2,hdep,c.here rm fL q⟩
theorem LH {D:Dat}:oH D .NotIn (E9 true):=⟨⟨_,fun X h=>h.K ▸ Im h.room,Nh⟩⟩
def j6 (o:Bool):dQ:=fun x y M Q=>match view M x,y with
 | .lst us,.int k=>-(2 ^ 63)<=k/\k < 2 ^ 63/\us.length * k.toNat<=sizeLine/\iH o (List.replicate k.toNat us).flatten M Q
 | _,_=>False
end U2
namespace U2
open PySem PySem.Spec PyProof.Rows L2
def strsOf:List U->Option (List Str)
 | []=>some []
 | .str x :: r=>(strsOf r).map (x :: ·)
 | _=>none
theorem FX:∀ ss:List Str,strsOf (ss.map U.str)=some ss
 | []=>rfl
 | s :: ss=>by simp only [List.map_cons,strsOf,FX ss];rfl
theorem Gp {K:PySem.W.Frag} {H:Hp} {M:aF}:∀ {us:List U} {vs:List V} {ss:List Str},aJ K H M us vs->strsOf us=some ss->vs=ss.map V.str
 | [],vs,ss,r,e=>by cases e;exact r.inv_nil
 | u :: us,vs,ss,r,e=>by
  obtain ⟨v,vs',rfl,a,b⟩:=r.inv_cons
  cases u with
  | str x =>
   simp only [strsOf] at e
   cases e2:strsOf us with
   | none=>rw [e2] at e;cases e
   | some ss' =>
    rw [e2] at e;cases e
    rw [a.str,Gp b e2];rfl
  | _=>cases e
end U2
namespace U2
open PySem PySem.Spec PyProof.Rows L2
theorem FY (l:Addr) (items:Array Value) (n:Nat) (dd:Option Addr) (sl:Array (Option Value)) (x:Int) (u:Tok) (h1:2<=x) (h2:x < 2 ^ 63) (he:items.isEmpty=false) (hc1:¬((items.size:Int) * x > (2 ^ 63 - 1) / 8)) (hc2:Builtin.Tuple.tupleTooMany ((items.size:Int) * x)=false) (hsz:(List.foldl (fun x1 x2=>x1++x2) #[] (List.replicate x.toNat items)).size<=sizeLine) :
  Meets (Builtin.«tuple.__mul__» ⟨[.ref l,.int x u],[]⟩) (fun _ R s=>s.heap.get? l=some { cls:=.type "tuple",dict:=dd,data:=.seq items n,slots:=sl }/\R (.ok (.ret (Value.ref s.heap.objs.size))) { s with heap:=s.heap.push { cls:=.type "tuple",data:=.seq (List.foldl (fun x1 x2=>x1++x2) #[] (List.replicate x.toNat items)) 0 } }) :=
 .of_wp fun prog w A R s h=>by
  obtain ⟨hp,g,d,tk,os⟩:=s;obtain ⟨hl,h⟩:=h
  have e1:(decide (x < -2 ^ 63) || decide (x ≥ 2 ^ 63))=false:=by
   have a:¬ x < -2 ^ 63:=by omega
   have b:¬ x ≥ 2 ^ 63:=by omega
   rw [decide_eq_false a,decide_eq_false b];rfl
  have e2:(items.isEmpty || x == 1)=false:=by
   have a:(x == 1)=false:=by
    have:¬ x=1:=by omega
    simpa using this
   rw [he,a];rfl
  have e3:(decide (x<=0) || items.isEmpty)=false:=by
   have a:¬ x<=0:=by omega
   rw [he,decide_eq_false a];rfl
  wp_walk
  refine wpAny_ite_false (decide_eq_false (by rw [e1];exact Bool.false_ne_true)) ?_
  wp_walk
  refine wpAny_ite_false (decide_eq_false (by rw [e2];exact Bool.false_ne_true)) ?_
  wp_walk
  refine wpAny_ite_false (decide_eq_false (by rw [e3];exact Bool.false_ne_true)) ?_
  wp_walk
  rw [if_neg hc1]
  wp_walk
  first | exact ⟨_,rfl,h⟩ | (refine wpAny_ite_false (decide_eq_false (Nat.not_lt.mpr hsz)) ?_;wp_walk;exact ⟨_,rfl,h⟩)
theorem A3 (a:Int) (t:Tok) (l:Addr) (items:Array Value) (n:Nat) (dd:Option Addr) (sl:Array (Option Value)) :
  Meets (Builtin.«int.__rmul__» ⟨[.int a t,.ref l],[]⟩) (fun _ R s=>s.heap.get? l=some { cls:=.type "tuple",dict:=dd,data:=.seq items n,slots:=sl }/\R (.ok (.ret Value.notImplemented)) s) :=
 .of_wp fun prog w A R s h=>by obtain ⟨hp,g,d,tk,os⟩:=s;obtain ⟨hl,h⟩:=h;wp_walk;exact ⟨_,rfl,h⟩
theorem p8:fillsNumberSlot (.type "tuple") "mul"=pure false :=
 PySem.fillsNumberSlot_seq (id:="tuple.__mul__") (r:=some (.builtin "tuple.__rmul__")) F.slot_tuple_mul.lookup (by decide +kernel) F.slot_tuple_rmul.lookup (by decide +kernel)
theorem uN:seqRepeat? (.type "tuple")=pure (some (.builtin "tuple.__mul__")):=by
 unfold seqRepeat?
 rw [PySem.seqSlot_of (T:="tuple") (name:="__mul__") (id:="tuple.__mul__") F.slot_tuple_mul.lookup (by decide +kernel),PySem.seqSlot_of (T:="tuple") (name:="__rmul__") (id:="tuple.__rmul__") F.slot_tuple_rmul.lookup (by decide +kernel)]
 rfl
def FP (K:PySem.W.Frag):R2:=fun x y H Q=>∃ l k xs,x=.ref l/\y=.int k/\eP K H l xs/\2<=k/\k < 2 ^ 20/\xs≠[]/\xs.length * k.toNat<=sizeLine /\
 ∀ p,H p=none->Q (.ref p) (upd H p (.tup (List.replicate k.toNat xs).flatten))
theorem NZ {X:Cx}:dA X (binaryOp .Mult) (FP X.K):=by
 intro pins s σ H x y v u Q I rx ry h
 obtain ⟨l,k,xs,rfl,rfl,hH,h1,h2,hne,hz,q⟩:=h
 cases rx
 obtain ⟨t,rfl⟩:=ry
 obtain ⟨its,r,p,hl'⟩:=I.tuple hH
 have hl:=r.length
 obtain ⟨⟨cls,dd,data,sl⟩,e,hc,n,hd⟩:=p
 simp only at hc hd
 subst hc hd
 have hlen:its.toArray.size * k.toNat<=sizeLine:=by rw [List.size_toArray,<- hl];exact hz
 have ek:((its.toArray.size:Int) * k)=((its.toArray.size * k.toNat:Nat):Int):=by rw [Int.natCast_mul,Int.toNat_of_nonneg (by omega)]
 have hcap:¬ ((its.toArray.size:Int) * k) > (2 ^ 63 - 1) / 8:=by
  rw [ek]
  have:(sizeLine:Nat)<=(2 ^ 63 - 1) / 8:=by decide
  omega
 have hlong:Builtin.Tuple.tupleTooMany ((its.toArray.size:Int) * k)=false:=by
  unfold Builtin.Tuple.tupleTooMany
  rw [ek]
  exact decide_eq_false (by omega)
 have hemp:its.toArray.isEmpty=false:=by
  cases its with
  | nil=>exact absurd (List.eq_nil_of_length_eq_zero (by rw [hl];rfl)) hne
  | cons a r=>rfl
 have hnew:List.foldl (fun x1 x2=>x1++x2) #[] (List.replicate k.toNat its.toArray)=(List.replicate k.toNat its).flatten.toArray:=by
  have:=foldl_rep its k.toNat []
  rw [List.nil_append] at this
  exact this
 have hsz:(List.foldl (fun x1 x2=>x1++x2) #[] (List.replicate k.toNat its.toArray)).size<=sizeLine:=by
  rw [hnew,List.size_toArray,len_rep,Nat.mul_comm];rw [List.size_toArray] at hlen;exact hlen
 refine wpAny_binaryOp_repeat_ref (T:="tuple") (U:="int") (by decide) ⟨_,e,rfl⟩ (fun s'=>typeIs_int s' k t) p8 F.fills_int_mul F.slot_int_rmul uN F.slot_int_index.lookup
  (call_meets F.slot_int_rmul (typeIs_int s k t) F.entry_int_rmul (F.args_int_rmul_2 _ _) (A3 k t l its.toArray n dd sl)
   ⟨e,rfl,⟨_,e,rfl⟩,call_meets F.slot_tuple_mul ⟨_,e,rfl⟩ F.entry_tuple_mul (F.args_tuple_mul_2 _ _) (FY l its.toArray n dd sl k t h1 (by omega) hemp hcap hlong hsz) ⟨e,?_⟩⟩)
 rw [hnew]
 have hf:H s.heap.objs.size=none:=I.hok.fresh (Nat.le_refl _)
 refine ⟨.ref s.heap.objs.size,upd H s.heap.objs.size (.tup (List.replicate k.toNat xs).flatten),I.laid (t':=s.toks) (fun b u e=>Heap.get?_push_of_some _ e) (Nat.le_refl _) ?_,rfl,q _ hf⟩
 exact ⟨by rw [len_rep,Nat.mul_comm];exact hz,(List.replicate k.toNat its).flatten,r.rep k.toNat,⟨_,Heap.get?_push_size _ rfl,rfl,rfl,_,rfl⟩⟩
def Mo:dQ:=fun x y M Q=>match x,y with
 | .tup us,.int k=>2<=k/\k < 2 ^ 20/\us≠[]/\us.length * k.toNat<=sizeLine/\Q (.tup (List.replicate k.toNat us).flatten) M
 | _,_=>False
theorem JG {K:PySem.W.Frag}:dJ K (FP K) Mo:=fun x y u w H M Q' rm ru rw h Q c=>by
 unfold Mo at h
 split at h
 ·rename_i us k
  obtain ⟨h1,h2,h3,h4,h5⟩:=h
  obtain ⟨a,vs,rfl,s2,r2⟩:=ru.tup
  cases rw.int
  refine ⟨a,k,vs,rfl,rfl,s2,h1,h2,fun z=>h3 (by have:=r2.length;rw [z] at this;exact List.eq_nil_of_length_eq_zero this),by rw [<- r2.length];exact h4,fun p hp=>?_⟩
  exact c.tup rm (r2.rep k.toNat) hp h5
 ·exact h.elim
end U2
namespace U2
open PySem PySem.Spec PyProof.Rows L2
end U2
namespace U2
open PySem PySem.Spec PyProof.Rows L2
section
variable {prog:Program} {w:World} {A:Around} {E:Value->Shared->Prop} {s:Shared}
end
section
variable {prog:Program} {w:World} {A:Around} {E:Value->Shared->Prop} {s:Shared}
end
theorem GS {α β:Type} (f:α->Bool) (g:β->Bool):∀ (l:List α) (m:List β),l.length=m.length->(∀ (i:Nat) a b,l[i]?=some a->m[i]?=some b->f a=g b)->l.countP f=m.countP g
 | [],[],_,_=>rfl
 | [],_ :: _,h,_=>by cases h
 | _ :: _,[],h,_=>by cases h
 | a :: l,b :: m,h,k=>by
  rw [List.countP_cons,List.countP_cons,k 0 a b rfl rfl,GS f g l m (by simpa using h) fun i a b h1 h2=>k (i + 1) a b h1 h2]
def vS:List U->Option (List Int)
 | []=>some []
 | .int b :: r=>(vS r).map (b :: ·)
 | _=>none
theorem HD {K:PySem.W.Frag} {H:Hp} {M:aF}:∀ {us:List U} {vs:List V} {bs:List Int},aJ K H M us vs->vS us=some bs->vs=bs.map V.int
 | [],_,_,r,h=>by cases h;exact r.inv_nil
 | u :: us,_,bs,r,h=>by
  obtain ⟨v,vs',rfl,a,b⟩:=r.inv_cons
  cases u with
  | int y =>
   simp only [vS] at h
   cases e:vS us with
   | none=>rw [e] at h;cases h
   | some cs =>
    rw [e] at h
    cases h
    rw [HD b e,a.int];rfl
  | _=>cases h
theorem Jn:∀ l:List Int,vS (l.map U.int)=some l
 | []=>rfl
 | a :: l=>by simp only [List.map_cons,vS,Jn l,Option.map_some]
end U2
namespace U2
open PySem PySem.Spec PyProof.Rows L2
abbrev Sz (h:Heap) (z TI TO T:Addr) (f:Bool):Prop :=
 h.get? z=some { cls:=.type "zip",dict:=none,data:=.fields #[rawInt T,.bool f,.bool false,.ref TI,.ref TO],slots:=#[] }
section
variable {prog:Program} {w:World} {A:Around} {E:Value->Shared->Prop} {s:Shared} {z TI TO i1 i2:Addr} {f1 f2:List Addr} {n1 n2:Nat} {P1 P2:Nat->Value->Prop} {S1 S2:Nat->Heap->Prop} {i:Nat} {a b:Value} {T:Addr} {f:Bool}
end
theorem FT:∀ us ws:List U,cX us ws=(us.zip ws).map fun z=>.tup [z.1,z.2]
 | [],ws=>by cases ws <;> rfl
 | _ :: _,[]=>rfl
 | u :: us,w :: ws=>by simp only [cX,List.zip_cons_cons,List.map_cons,FT us ws]
def LG (o:Bool) (ta:UA):UE:=fun τ M Q=>ta τ M fun us M1=>match us with
 | [.tup us,y]=>match view M1 y with
  | .lst ws=>iH o (cX us ws) M1 Q
  | _=>False
 | _=>False
end U2
namespace U2
open PySem PySem.Spec PyProof.Rows L2
end U2
namespace L2
open PySem PySem.Spec PyProof.Rows
section
variable {κ:Type} [DecidableEq κ]
def mR (kvs:List (κ × V)) (k:κ):Option V:=(kvs.find? fun kv=>decide (kv.1=k)).map (·.2)
def putK (kvs:List (κ × V)) (k:κ) (v:V):List (κ × V) :=
 if (kvs.any fun kv=>decide (kv.1=k))=true then kvs.map (fun kv=>if kv.1=k then (kv.1,v) else kv) else kvs++[(k,v)]
def sW (kvs:List (κ × V)) (k:κ):List (κ × V):=kvs.filter fun kv=>decide (kv.1≠k)
theorem jU {p:κ × V} {r:List (κ × V)} {k:κ} (e:p.1=k):mR (p :: r) k=some p.2:=by simp [mR,List.find?_cons,e]
theorem jS {p:κ × V} {r:List (κ × V)} {k:κ} (e:¬ p.1=k):mR (p :: r) k=mR r k:=by simp [mR,List.find?_cons,e]
theorem xG (k:κ):∀ kvs:List (κ × V),(kvs.any fun kv=>decide (kv.1=k))=(mR kvs k).isSome
 | []=>rfl
 | p :: r=>by
  rw [List.any_cons]
  by_cases e:p.1=k
  ·simp only [jU e,decide_eq_true e,Bool.true_or,Option.isSome_some]
  ·rw [jS e,decide_eq_false e,Bool.false_or];exact xG k r
theorem Ln (k j:κ) (y:V):∀ kvs:List (κ × V),mR (kvs.map fun kv=>if kv.1=k then (kv.1,y) else kv) j=(mR kvs j).map fun x=>if j=k then y else x
 | []=>rfl
 | p :: r=>by
  have ih:=Ln k j y r
  rw [List.map_cons]
  by_cases h:p.1=k
  ·rw [if_pos h]
   by_cases e:p.1=j
   ·rw [jU (p:=(p.1,y)) e,jU e,Option.map_some,if_pos (e.symm.trans h)]
   ·rw [jS (p:=(p.1,y)) e,jS e,ih]
  ·rw [if_neg h]
   by_cases e:p.1=j
   ·rw [jU (p:=p) e,jU e,Option.map_some,if_neg (fun z=>h (e.trans z))]
   ·rw [jS (p:=p) e,jS e,ih]
theorem wJ (kvs:List (κ × V)) (k:κ) (v:V):(putK kvs k v).length<=kvs.length + 1:=by
 unfold putK
 split
 ·rw [List.length_map];omega
 ·rw [List.length_append,List.length_cons,List.length_nil];omega
theorem R0 {kvs:List (κ × V)} {k:κ} (v:V) (h:mR kvs k=none):putK kvs k v=kvs++[(k,v)]:=by
 unfold putK
 rw [xG,h]
 exact if_neg (by decide)
theorem jR.isSome_eq {o:Option V} {u:Option Value} (r:jR o u):o.isSome=u.isSome:=by
 cases o with
 | none=>cases u with
  | none=>rfl
  | some _=>exact (show False from r).elim
 | some _=>cases u with
  | none=>exact (show False from r).elim
  | some _=>rfl
theorem KV.val {kvs:List (κ × V)} {vs:List (κ × Value)} (r:KV kvs vs) (k:κ):jR (mR kvs k) (valueAt vs k):=by
 unfold KV at r
 induction r with
 | nil=>exact True.intro
 | @cons p q ps qs h t ih =>
  obtain ⟨h1,h2⟩:=h
  by_cases e:p.1=k
  ·have e':q.1=k:=h1.symm.trans e
   have b:valueAt (q :: qs) k=some q.2:=by simp [valueAt,List.find?_cons,e']
   rw [jU e,b];exact h2
  ·have e':¬ q.1=k:=fun z=>e (h1.trans z)
   have b:valueAt (q :: qs) k=valueAt qs k:=by simp [valueAt,List.find?_cons,e']
   rw [jS e,b];exact ih
theorem KV.any {kvs:List (κ × V)} {vs:List (κ × Value)} (r:KV kvs vs) (k:κ):(kvs.any fun kv=>decide (kv.1=k))=vs.any fun kv=>decide (kv.1=k):=by
 unfold KV at r
 induction r with
 | nil=>rfl
 | cons h t ih=>rw [List.any_cons,List.any_cons,ih,h.1]
theorem KV.repl {kvs:List (κ × V)} {vs:List (κ × Value)} (r:KV kvs vs) (k:κ) {y:V} {u:Value} (ry:RelV y u) :
  KV (kvs.map fun kv=>if kv.1=k then (kv.1,y) else kv) (vs.map fun kv=>if kv.1=k then (kv.1,u) else kv):=by
 unfold KV at r ⊢
 induction r with
 | nil=>exact .nil
 | @cons p q ps qs h t ih =>
  rw [List.map_cons,List.map_cons]
  refine .cons ?_ ih
  obtain ⟨h1,h2⟩:=h
  by_cases e:p.1=k
  ·rw [if_pos e,if_pos (h1.symm.trans e)];exact ⟨h1,ry⟩
  ·rw [if_neg e,if_neg (fun z=>e (h1.trans z))];exact ⟨h1,h2⟩
theorem KV.put {kvs:List (κ × V)} {vs:List (κ × Value)} (r:KV kvs vs) (k:κ) {y:V} {u:Value} (ry:RelV y u):KV (putK kvs k y) (stored vs k u):=by
 unfold putK stored
 rw [r.any k]
 by_cases e:(vs.any fun kv=>decide (kv.1=k))=true
 ·rw [if_pos e,if_pos e];exact r.repl k ry
 ·rw [if_neg e,if_neg e];exact Paired.snoc r ⟨rfl,ry⟩
theorem KV.length {kvs:List (κ × V)} {vs:List (κ × Value)} (r:KV kvs vs):kvs.length=vs.length:=Paired.length r
end
theorem FK {P:Program} {w:World} {k:Key} {u:Value} (r:RelV (kV k) u):(eV P w).is k u=true:=by
 cases k with
 | inl i=>obtain ⟨t,e⟩:=(show ∃ t,u=Value.int i t from r);subst e;exact DR P w i t
 | inr x=>obtain ⟨t,e⟩:=(show ∃ t,u=Value.str x t from r);subst e;exact DP P w x t
theorem Qs {a b:Key} (e:kV a=kV b):a=b:=by
 cases a with
 | inl i=>cases b with
  | inl j=>have e':V.int i=V.int j:=e;injection e' with e';rw [e']
  | inr y=>exact nomatch (show V.int i=V.str y from e)
 | inr x=>cases b with
  | inl j=>exact nomatch (show V.str x=V.int j from e)
  | inr y=>have e':V.str x=V.str y:=e;injection e' with e';rw [e']
theorem MT:∀ {a b:List Key},a.map kV=b.map kV->a=b
 | [],[],_=>rfl
 | [],_ :: _,e=>by simp at e
 | _ :: _,[],e=>by simp at e
 | x :: xs,y :: ys,e=>by
  rw [List.map_cons,List.map_cons] at e
  injection e with e1 e2
  rw [Qs e1,MT e2]
theorem AM {P:Program} {w:World}:∀ {ks:List Key} {us:List Value},Vals (ks.map kV) us->ItemsAre (eV P w) ks us
 | [],_,r=>by rw [List.map_nil] at r;cases r;exact .nil
 | k :: ks,_,r=>by
  rw [List.map_cons] at r
  cases r with
  | cons h t=>exact .cons (FK h) (AM t)
abbrev qP (H:Hp):List (List Key × V)->List (List Key × Addr × Value)->Prop:=Paired fun p q=>p.1=q.1/\H q.2.1=some (.tup (p.1.map kV))/\RelV p.2 q.2.2
theorem qP.val {H:Hp} {kvs:List (List Key × V)} {xs:List (List Key × Addr × Value)} (r:qP H kvs xs) (k:List Key):jR (mR kvs k) ((atKey xs k).map (·.2)):=by
 induction r with
 | nil=>exact True.intro
 | @cons p q ps qs h t ih =>
  obtain ⟨h1,_,h2⟩:=h
  by_cases e:p.1=k
  ·have e':q.1=k:=h1.symm.trans e
   have b:atKey (q :: qs) k=some q.2:=by simp [atKey,List.find?_cons,e']
   rw [jU e,b];exact h2
  ·have e':¬ q.1=k:=fun z=>e (h1.trans z)
   have b:atKey (q :: qs) k=atKey qs k:=by simp [atKey,List.find?_cons,e']
   rw [jS e,b];exact ih
theorem qP.repl {H:Hp} {kvs:List (List Key × V)} {xs:List (List Key × Addr × Value)} (r:qP H kvs xs) (k:List Key) {y:V} {u:Value} (ry:RelV y u) :
  qP H (kvs.map fun kv=>if kv.1=k then (kv.1,y) else kv) (xs.map (putAt k u)):=by
 induction r with
 | nil=>exact .nil
 | @cons p q ps qs h t ih =>
  rw [List.map_cons,List.map_cons]
  refine .cons ?_ ih
  obtain ⟨h1,h2,h3⟩:=h
  unfold putAt
  by_cases e:p.1=k
  ·rw [if_pos e,if_pos (h1.symm.trans e)];exact ⟨h1,h2,ry⟩
  ·rw [if_neg e,if_neg (fun z=>e (h1.trans z))];exact ⟨h1,h2,h3⟩
theorem qP.put {H:Hp} {kvs:List (List Key × V)} {xs:List (List Key × Addr × Value)} (r:qP H kvs xs) (k:List Key) {b:Addr} {y:V} {u:Value} (hb:H b=some (.tup (k.map kV))) (ry:RelV y u) :
  qP H (putK kvs k y) (storedH xs k b u):=by
 have e:(kvs.any fun kv=>decide (kv.1=k))=(atKey xs k).isSome:=by
  rw [xG,(r.val k).isSome_eq,Option.isSome_map]
 unfold putK storedH
 rw [e]
 by_cases q:(atKey xs k).isSome=true
 ·rw [if_pos q,if_pos q];exact r.repl k ry
 ·rw [if_neg q,if_neg q];exact Paired.snoc r ⟨rfl,hb,ry⟩
theorem qP.keeps {H H':Hp} {kvs:List (List Key × V)} {xs:List (List Key × Addr × Value)} (r:qP H kvs xs) (ht:∀ b ys,H b=some (.tup ys)->H' b=some (.tup ys)):qP H' kvs xs :=
 Paired.mapP r fun _ _ z=>⟨z.1,ht _ _ z.2.1,z.2.2⟩
section
variable {P:Program} {w:World} {H:Hp} {h:Heap} {a:Addr}
theorem Md {u:HO} (ok:fR P w H h) (e:Rd H a u):dI P w H h a u:=e.ok ok
theorem GG {kvs:List (Key × V)} (ok:fR P w H h) (e:Rd H a (.dK kvs)):kvs.length<=sizeLine/\(a == sysModules)=false/\∃ vs,KV kvs vs/\h.DictOf (eV P w) a vs :=
 show dI P w H h a (.dK kvs) from Md ok e
theorem Rr {kvs:List (Key × V)} (ok:fR P w H h) (e:H a=some (.dK kvs)):kvs.length<=sizeLine/\(a == sysModules)=false/\∃ vs,KV kvs vs/\h.DictOf (eV P w) a vs:=GG ok (.inl e)
theorem CN {ks:List Key} (ok:fR P w H h) (e:H a=some (.tup (ks.map kV))):(tupleKind (eV P w)).is h ks a:=by
 obtain ⟨_,its,r,o,h1,h2,_,n,h3⟩:=(show dI P w H h a (.tup (ks.map kV)) from ok a _ e)
 exact ⟨o,its.toArray,n,h1,h2,h3,by simpa using AM r⟩
theorem Fc {kvs:List (List Key × V)} (ok:fR P w H h) (e:Rd H a (.dT kvs)):kvs.length<=sizeLine/\(a == sysModules)=false /\
  ∃ xs,qP H kvs xs/\h.DictOfH (tupleKind (eV P w)) a xs:=by
 obtain ⟨z,y,xs,r,o,es,ep,h1,h2,h3,h4,h5⟩:=(show dI P w H h a (.dT kvs) from Md ok e)
 refine ⟨z,y,xs,r,o,es,ep,h1,h2,h3,h4,fun x hx=>?_,h5⟩
 have all:∀ {l:List (List Key × V)} {m:List (List Key × Addr × Value)},qP H l m->∀ x∈m,(tupleKind (eV P w)).is h x.1 x.2.1:=by
  intro l m q
  induction q with
  | nil=>intro x hx;exact nomatch hx
  | @cons p q ps qs hq t ih =>
   intro x hx
   rcases List.mem_cons.mp hx with e | hx
   ·subst e
    exact CN ok (by rw [<- hq.1];exact hq.2.1)
   ·exact ih x hx
 exact all r x hx
theorem Q0 {kvs:List (List Key × V)} (ok:fR P w H h) (e:H a=some (.dT kvs)):kvs.length<=sizeLine/\(a == sysModules)=false /\
  ∃ xs,qP H kvs xs/\h.DictOfH (tupleKind (eV P w)) a xs:=Fc ok (.inl e)
end
def Cb (H:Hp) (a:Addr) (y:V) (r:Option V):Prop :=
 (∃ kvs k,Rd H a (.dK kvs)/\y=kV k/\r=mR kvs k)\/∃ kvs k b,Rd H a (.dT kvs)/\y=.ref b/\H b=some (.tup (k.map kV))/\r=mR kvs k
def Ac (H:Hp) (a:Addr) (y v:V) (H':Hp):Prop :=
 (∃ kvs k,H a=some (.dK kvs)/\y=kV k/\kvs.length < sizeLine/\H'=upd H a (.dK (putK kvs k v))) \/
 ∃ kvs k b,H a=some (.dT kvs)/\y=.ref b/\H b=some (.tup (k.map kV))/\kvs.length < sizeLine/\H'=upd H a (.dT (putK kvs k v))
theorem Ac.k {H:Hp} {a:Addr} {kvs:List (Key × V)} {k:Key} {v:V} (e:H a=some (.dK kvs)) (hl:kvs.length < sizeLine):Ac H a (kV k) v (upd H a (.dK (putK kvs k v))):=.inl ⟨kvs,k,e,rfl,hl,rfl⟩
theorem Ac.t {H:Hp} {a b:Addr} {kvs:List (List Key × V)} {k:List Key} {v:V} (e:H a=some (.dT kvs)) (eb:H b=some (.tup (k.map kV))) (hl:kvs.length < sizeLine) :
  Ac H a (.ref b) v (upd H a (.dT (putK kvs k v))):=.inr ⟨kvs,k,b,e,rfl,eb,hl,rfl⟩
section
variable {X:Cx} {pins:List (Addr × Obj)} {σ:St} {H:Hp} {s:Shared} {a:Addr} {y v:V} {u r:Value} {o:Option V} {A:Around} {E:Value->Shared->Prop}
theorem Inv.big (I:Inv X pins σ H s):sysModules < s.heap.objs.size:=by
 have h:mainGlobals < s.heap.objs.size:=(I.mod.glob.keeps I.bk).lt
 exact Nat.lt_trans (by decide) h
theorem Hd {Q:Value->Shared->Prop} (hu:A.units + 1 < cLine) (I:Inv X pins σ H s) (g:Cb H a y (some v)) (ry:RelV y u) (h:∀ w' s',Inv X pins σ H s'->RelV v w'->Q w' s') :
  wpAny (model X.prog X.w) A (getItem (.ref a) u) Q E s:=by
 rcases g with ⟨kvs,k,e,ey,l⟩ | ⟨kvs,k,b,e,ey,eb,l⟩
 ·subst ey
  obtain ⟨z,hd,vs,rel,dd⟩:=GG I.hok e
  obtain ⟨w',hw,rw'⟩:=jR.some_of (v:=v) (o:=valueAt vs k) (by rw [l];exact rel.val k)
  exact wpAny_getItem_of (FK ry) dd.mapOf hw (h w' _ (I.tok _) rw')
 ·subst ey
  cases (show u=Value.ref b from ry)
  obtain ⟨z,hd,xs,rel,dd⟩:=Fc I.hok e
  obtain ⟨w',hw,rw'⟩:=jR.some_of (v:=v) (o:=(atKey xs k).map (·.2)) (by rw [l];exact rel.val k)
  obtain ⟨p,hp,hp2⟩:=Option.map_eq_some_iff.mp hw
  refine wpAny_getItem_heap (tupleKind_room_in1 hu) (CN I.hok eb) dd hp ?_
  rw [hp2]
  exact h w' _ (I.tok _) rw'
theorem EG {h':Heap} {t':Nat} {ob:HO} (I:Inv X pins σ H s) (mu:IH (H a)) (hs:Heap.SameBut a s.heap h') (he:∃ q,h'.get? a=some q) (new:dI X.prog X.w (upd H a ob) h' a ob) :
  Inv X pins σ (upd H a ob) { s with heap:=h',toks:=t' } :=
 I.write (x:=a) (e:=a) mu (.inl rfl) (fun b q hb z=>(hs.2 b hb).trans z) he new
theorem PD {P:Program} {w:World} {H':Hp} {h':Heap} {kvs:List (Key × V)} {vs:List (Key × Value)} (z:kvs.length<=sizeLine) (hd:(a == sysModules)=false) (rel:KV kvs vs) (dd:h'.DictOf (eV P w) a vs) :
  dI P w H' h' a (.dK kvs):=⟨z,hd,vs,rel,dd⟩
theorem I0 {H':Hp} {Q:Unit->Shared->Prop} (hu:A.units + 1 < cLine) (I:Inv X pins σ H s) (g:Ac H a y v H') (ry:RelV y u) (rv:RelV v r) (h:∀ s',Inv X pins σ H' s'->Q () s') :
  wpAny (model X.prog X.w) A (setItem (.ref a) u r) Q E s:=by
 rcases g with ⟨kvs,k,e,ey,l,eH⟩ | ⟨kvs,k,b,e,ey,eb,l,eH⟩
 ·subst ey eH
  obtain ⟨z,hd,vs,rel,dd⟩:=Rr I.hok e
  have hz:vs.length<=sizeLine:=by rw [<- rel.length];exact z
  have hl:(putK kvs k v).length<=sizeLine:=by have:=wJ kvs k v;omega
  refine wpAny_setItem_pairs (hsz:=hz) (FK ry) dd fun h' dd' hs=>h _ ?_
  have he:∃ q,h'.get? a=some q:=let ⟨q,_,_,hq,_⟩:=dd';⟨q,hq⟩
  exact EG I (by rw [e];exact True.intro) hs he (PD hl hd (rel.put k rv) dd')
 ·subst ey eH
  cases (show u=Value.ref b from ry)
  obtain ⟨z,hd,xs,rel,dd⟩:=Q0 I.hok e
  have hz:xs.length<=sizeLine:=by rw [<- Paired.length rel];exact z
  have hl:(putK kvs k v).length<=sizeLine:=by have:=wJ kvs k v;omega
  refine wpAny_setItem_heap (hsz:=hz) (tupleKind_room_in1 hu) (CN I.hok eb) dd fun h' dd' hs=>h _ ?_
  obtain ⟨q,es,ep,hq,h2,h3,h4,_,h5⟩:=dd'
  refine EG I (by rw [e];exact True.intro) hs ⟨q,hq⟩ ⟨hl,hd,_,(rel.put k eb rv).keeps fun c ys ec=>?_,q,es,ep,hq,h2,h3,h4,h5⟩
  rw [bL (QZ ec e (fun z=>nomatch z))]
  exact ec
end
section
variable {X:Cx} {pins:List (Addr × Obj)} {σ:St} {H:Hp} {s:Shared} {a:Addr} {kvs:List (Key × V)} {k:Key} {u:Value} {A:Around} {E:Value->Shared->Prop}
end
def KI (i:Expr):Prop:=∀ ov iv,subscripted i false ov iv=operate [ov,iv] (getItem ov iv)
theorem MW {prog:Program} {w:World} {A:Around} {E:Value->Shared->Prop} {s:Shared} {env:Env} {value slice:Expr} {pos:Pos} {T id:String} {Q:Value->Shared->Prop}
  (hl:typeLookup (.type T) "__getitem__"=pure (some (.builtin id))) (hs:KI slice)
  (h:wpAny (model prog w) A (eval value env) (fun o s₁=>wpAny (model prog w) A (eval slice env) (fun i s₂=>s₂.TypeIs o T/\wpAny (model prog w) A (getItem o i) Q E s₂) E s₁) E s) :
  wpAny (model prog w) A (eval (.Subscript value slice pos) env) Q E s:=by
 refine Subscript_ (wpAny_mono h (fun o s₁ h₁=>wpAny_mono h₁ (fun i s₂ h₂=>?_) fun _ _ x=>x) fun _ _ x=>x)
 obtain ⟨hT,h₂⟩:=h₂
 unfold subscriptTail
 refine wpAny_bind ?_
 rw [getitemInPython_of_ne hT.not_modules]
 refine wpAny_bind (wpAny_specialOf hT hl ?_)
 have fin:wpAny (model prog w) A (subscripted slice false o i) (fun r s₃=>wpAny (model prog w) A (letTemporaryGo value o r >>= fun _=>pure r) Q E s₃) E s₂:=by
  rw [hs o i]
  exact wpAny_operating (wpAny_mono h₂ (fun r s₃ h₃=>wpAny_bind (wpAny_letTemporaryGo (wpAny_pure h₃))) fun _ _ x=>x)
 first
  | exact wpAny_pure (wpAny_bind fin)
  | exact wpAny_bind (wpAny_pure (wpAny_bind fin))
  | exact wpAny_bind fin
theorem DS {X:Cx} {pins:List (Addr × Obj)} {σ:St} {H:Hp} {s:Shared} {a:Addr} {y:V} {o:Option V} (I:Inv X pins σ H s) (g:Cb H a y o):s.TypeIs (.ref a) "dict":=by
 rcases g with ⟨kvs,k,e,_,_⟩ | ⟨kvs,k,b,e,_,_,_⟩
 ·obtain ⟨_,_,vs,_,dd⟩:=GG I.hok e
  exact dd.typeIs
 ·obtain ⟨_,_,xs,_,dd⟩:=Fc I.hok e
  exact dd.typeIs
def Q4 (td ty:TE):TE:=fun σ H Q=>td σ H fun x H1=>ty σ H1 fun y H2=>∃ a v,x=.ref a/\Cb H2 a y (some v)/\Q v H2
def QY (td ty tv:TE):TS:=fun D σ H=>tv σ H fun v H1=>td σ H1 fun x H2=>ty σ H2 fun y H3=>∃ a H4,x=.ref a/\Ac H3 a y v H4/\D.nx σ H4
section
variable {X:Cx} {o i e value:Expr} {pos pos' tpos:Pos} {td ty tv:TE}
theorem MQ (hu:X.A.units + 1 < cLine) (ho:PE X o td) (hi:PE X i ty) (hs:KI i):PE X (.Subscript o i pos) (Q4 td ty):=by
 intro pins s σ H Q I h
 refine MW PySem.F.slot_dict_getitem.lookup hs (bI (ho pins s σ H _ I h) fun u s1 ⟨x,H1,I1,rx,q1⟩=>bI (hi pins s1 σ H1 _ I1 q1) fun iv s2 ⟨y,H2,I2,ry,a,v,ex,g,q2⟩=>?_)
 subst ex
 obtain rfl:u=Value.ref a:=rx
 exact ⟨DS I2 g,Hd hu I2 g ry fun w' s3 I3 rw'=>⟨v,H2,I3,rw',q2⟩⟩
theorem MS (hu:X.A.units + 1 < cLine) (ho:PE X o td) (hi:PE X i ty) (hv:PE X value tv) (hs:swapsWith value (some (.Subscript o i pos')) pos.line X.env=pure false) :
  PS X (.Assign [.Subscript o i pos'] value pos) (QY td ty tv):=by
 intro pins s σ H D I h
 refine wpAny_Assign_Subscript (bI (hv pins s σ H _ I h) fun r s1 ⟨v,H1,I1,rv,q1⟩=>bI (ho pins s1 σ H1 _ I1 q1) fun u s2 ⟨x,H2,I2,rx,q2⟩=>bI (hi pins s2 σ H2 _ I2 q2) fun iv s3 ⟨y,H3,I3,ry,a,H4,ex,g,q3⟩=>?_) hs
 subst ex
 obtain rfl:u=Value.ref a:=rx
 exact I0 hu I3 g ry rv fun s4 I4=>⟨σ,H4,I4,q3⟩
end
theorem JN {P:Program} {w:World} {H:Hp} (h:Heap) (hb:sysModules < h.objs.size):dI P w H (h.push { cls:=.type "dict",data:=.dict #[] }) h.objs.size (.dK []) :=
 ⟨Nat.zero_le _,beq_eq_false_iff_ne.mpr (Ne.symm (Nat.ne_of_lt hb)),[],.nil,Heap.DictOf.new h⟩
theorem Jr {P:Program} {w:World} {H:Hp} (h:Heap) (hb:sysModules < h.objs.size):dI P w H (h.push { cls:=.type "dict",data:=.dict #[] }) h.objs.size (.dT []) :=
 ⟨Nat.zero_le _,beq_eq_false_iff_ne.mpr (Ne.symm (Nat.ne_of_lt hb)),[],.nil,_,#[],0,Heap.get?_push_size _ rfl,⟨rfl,rfl,rfl⟩,rfl,rfl,List.nodup_nil⟩
def HW:TE:=fun _ H Q=>∀ p,H p=none->Q (.ref p) (upd H p (.dK []))
def IQ:TE:=fun _ H Q=>∀ p,H p=none->Q (.ref p) (upd H p (.dT []))
section
variable {X:Cx} {pos:Pos}
theorem Js:PE X (.Dict [] [] pos) HW:=fun pins s σ H Q I h =>
 wpAny_Dict_empty ⟨.ref s.heap.objs.size,_,I.laid (a:=s.heap.objs.size) (o:=.dK []) (t':=s.toks) (fun _ _ q=>Heap.get?_push_of_some _ q) (Nat.le_refl _) (JN s.heap I.big),rfl,h _ (I.hok.fresh (Nat.le_refl _))⟩
theorem LC:PE X (.Dict [] [] pos) IQ:=fun pins s σ H Q I h =>
 wpAny_Dict_empty ⟨.ref s.heap.objs.size,_,I.laid (a:=s.heap.objs.size) (o:=.dT []) (t':=s.toks) (fun _ _ q=>Heap.get?_push_of_some _ q) (Nat.le_refl _) (Jr s.heap I.big),rfl,h _ (I.hok.fresh (Nat.le_refl _))⟩
end
abbrev VV:List (V × V)->List (Value × Value)->Prop:=Paired fun p q=>RelV p.1 q.1/\RelV p.2 q.2
section
variable {X:Cx} {pins:List (Addr × Obj)} {σ:St} {H:Hp} {s:Shared} {a:Addr} {y d:V} {u r:Value} {o:Option V} {A:Around} {E:Value->Shared->Prop}
end
section
variable {X:Cx} {o e f:Expr} {apos cpos:Pos} {td ty tx:TE}
end
section
variable {X:Cx} {pins:List (Addr × Obj)} {σ:St} {H:Hp} {s:Shared} {a:Addr} {kvs:List (Key × V)} {A:Around} {E:Value->Shared->Prop}
end
section
variable {X:Cx} {pins:List (Addr × Obj)} {σ:St} {H:Hp} {s:Shared} {a:Addr} {y:V} {u:Value} {A:Around} {E:Value->Shared->Prop}
end
section
variable {X:Cx}
end
section
variable {κ:Type} [DecidableEq κ]
theorem RB {p:κ × V} {r:List (κ × V)} {k:κ} (e:p.1=k):sW (p :: r) k=sW r k:=by
 unfold sW
 rw [List.filter_cons,if_neg (by simp [e])]
theorem G3 {p:κ × V} {r:List (κ × V)} {k:κ} (e:¬ p.1=k):sW (p :: r) k=p :: sW r k:=by
 unfold sW
 rw [List.filter_cons,if_pos (by simp [e])]
theorem KC:∀ {kvs:List (κ × V)} {k:κ},¬ k∈kvs.map (·.1)->sW kvs k=kvs
 | [],_,_=>rfl
 | p :: r,k,h=>by
  have h':¬ k∈r.map (·.1):=fun m=>by
   obtain ⟨q,hq,e⟩:=List.mem_map.mp m
   exact h (List.mem_map.mpr ⟨q,List.mem_cons.mpr (Or.inr hq),e⟩)
  rw [G3 fun e=>h (List.mem_map.mpr ⟨p,List.mem_cons.mpr (Or.inl rfl),e⟩),KC h']
end
end L2
namespace U2
open PySem PySem.Spec PyProof.Rows L2
def vT (_:PySem.W.Frag):Prop:=True
def uO:U->Option Key
 | .int i=>some (.inl i)
 | .str x=>some (.inr x)
 | _=>none
def oC:List U->Option (List Key)
 | []=>some []
 | u :: us=>match uO u,oC us with
  | some k,some ks=>some (k :: ks)
  | _,_=>none
def kU:Key->U
 | .inl i=>.int i
 | .inr x=>.str x
theorem Nn (k:Key):uO (kU k)=some k:=by cases k <;> rfl
theorem Kq:∀ ks:List Key,oC (ks.map kU)=some ks
 | []=>rfl
 | k :: ks=>by simp only [List.map_cons,oC,Nn,Kq ks]
theorem wY {K:PySem.W.Frag} {H:Hp} {M:aF} {u:U} {v:V} {k:Key} (r:aM K H M u v) (e:uO u=some k):v=kV k:=by
 cases u with
 | int i=>cases e;exact r.int
 | str x=>cases e;exact r.str
 | _=>cases e
theorem AY {K:PySem.W.Frag} {H:Hp} {M:aF}:∀ {us:List U} {vs:List V} {ks:List Key},aJ K H M us vs->oC us=some ks->vs=ks.map kV
 | [],_,_,r,e=>by cases e;exact r.inv_nil
 | u :: us,_,ks,r,e=>by
  obtain ⟨v,vs',rfl,a,b⟩:=r.inv_cons
  simp only [oC] at e
  cases e1:uO u with
  | none=>rw [e1] at e;cases e
  | some k =>
   cases e2:oC us with
   | none=>rw [e1,e2] at e;cases e
   | some ks' =>
    rw [e1,e2] at e;cases e
    rw [wY a e1,AY b e2];rfl
section
variable {κ:Type} [DecidableEq κ]
def qU (kvs:List (κ × U)) (k:κ):Option U:=(kvs.find? fun kv=>decide (kv.1=k)).map (·.2)
def sO (kvs:List (κ × U)) (k:κ) (u:U):List (κ × U) :=
 if (kvs.any fun kv=>decide (kv.1=k))=true then kvs.map (fun kv=>if kv.1=k then (kv.1,u) else kv) else kvs++[(k,u)]
theorem Cc {p:κ × U} {r:List (κ × U)} {k:κ} (e:p.1=k):qU (p :: r) k=some p.2:=by simp [qU,List.find?_cons,e]
theorem Dw {p:κ × U} {r:List (κ × U)} {k:κ} (e:¬ p.1=k):qU (p :: r) k=qU r k:=by simp [qU,List.find?_cons,e]
theorem Kv (k:κ):∀ kvs:List (κ × U),(kvs.any fun kv=>decide (kv.1=k))=(qU kvs k).isSome
 | []=>rfl
 | p :: r=>by
  rw [List.any_cons]
  by_cases e:p.1=k
  ·simp only [Cc e,decide_eq_true e,Bool.true_or,Option.isSome_some]
  ·rw [Dw e,decide_eq_false e,Bool.false_or];exact Kv k r
variable {K:PySem.W.Frag} {H:Hp} {M:aF}
theorem bJ.any {kvs:List (κ × U)} {ws:List (κ × V)} (r:bJ K H M kvs ws) (k:κ):(kvs.any fun kv=>decide (kv.1=k))=ws.any fun kv=>decide (kv.1=k):=by
 unfold bJ at r
 induction r with
 | nil=>rfl
 | cons h t ih=>rw [List.any_cons,List.any_cons,ih,h.1]
def LS (K:PySem.W.Frag) (H:Hp) (M:aF):Option U->Option V->Prop
 | none,none=>True
 | some u,some v=>aM K H M u v
 | _,_=>False
theorem bJ.val {kvs:List (κ × U)} {ws:List (κ × V)} (r:bJ K H M kvs ws) (k:κ):LS K H M (qU kvs k) (mR ws k):=by
 unfold bJ at r
 induction r with
 | nil=>exact True.intro
 | @cons p q ps qs h t ih =>
  obtain ⟨h1,h2⟩:=h
  by_cases e:p.1=k
  ·rw [Cc e,jU (h1.symm.trans e)];exact h2
  ·rw [Dw e,jS (fun z=>e (h1.trans z))];exact ih
theorem bJ.repl {kvs:List (κ × U)} {ws:List (κ × V)} (r:bJ K H M kvs ws) (k:κ) {u:U} {v:V} (ru:aM K H M u v):bJ K H M (kvs.map fun kv=>if kv.1=k then (kv.1,u) else kv) (ws.map fun kv=>if kv.1=k then (kv.1,v) else kv):=by
 unfold bJ at r ⊢
 induction r with
 | nil=>exact .nil
 | @cons p q ps qs h t ih =>
  rw [List.map_cons,List.map_cons]
  refine .cons ?_ ih
  obtain ⟨h1,h2⟩:=h
  by_cases e:p.1=k
  ·rw [if_pos e,if_pos (h1.symm.trans e)];exact ⟨h1,ru⟩
  ·rw [if_neg e,if_neg (fun z=>e (h1.trans z))];exact ⟨h1,h2⟩
theorem bJ.put {kvs:List (κ × U)} {ws:List (κ × V)} (r:bJ K H M kvs ws) (k:κ) {u:U} {v:V} (ru:aM K H M u v):bJ K H M (sO kvs k u) (putK ws k v):=by
 unfold sO putK
 rw [r.any k]
 split
 ·exact r.repl k ru
 ·exact Paired.snoc r ⟨rfl,ru⟩
theorem bJ.length {kvs:List (κ × U)} {ws:List (κ × V)} (r:bJ K H M kvs ws):kvs.length=ws.length:=Paired.length r
theorem Dp:∀ {ws:List (κ × V)} {us:List U},aJ K H M us (ws.map (·.2))->bJ K H M ((ws.map (·.1)).zip us) ws
 | [],us,r=>by
  have:=r.length
  cases us with
  | nil=>exact .nil
  | cons _ _=>simp at this
 | w :: ws,us,r=>by
  cases us with
  | nil=>have:=r.length;simp at this
  | cons u us =>
   obtain ⟨v,vs',e,a,b⟩:=r.inv_cons
   rw [List.map_cons] at e
   cases e
   exact .cons ⟨rfl,a⟩ (Dp b)
end
def OU:List Key->Key
 | [k]=>k
 | _=>.inl 0
def CC (M:aF):U->Option MO
 | .ref a=>M a
 | .dic ks true us=>some (.dT (ks.zip us))
 | .dic ks false us=>some (.dK ((ks.map OU).zip us))
 | _=>none
section
variable {K:PySem.W.Frag} {H:Hp} {M:aF} {x y:U} {v u:V}
theorem QX {kvs:List (Key × U)} (rm:RelM K H M) (r:aM K H M x v) (e:CC M x=some (.dK kvs)):∃ a ws,v=.ref a/\Rd H a (.dK ws)/\bJ K H M kvs ws:=by
 cases x with
 | ref a=>obtain ⟨ws,h1,h2⟩:=rm a _ e;exact ⟨a,ws,r.ref,.inl h1,h2⟩
 | dic ks tk us =>
  cases tk with
  | true=>cases e
  | false =>
   simp only [CC] at e
   cases e
   simp only [aM] at r
   obtain ⟨a,vs,rfl,m,⟨ws,h1,rfl,rfl⟩,ru⟩:=r
   refine ⟨a,ws,rfl,h1,?_⟩
   have e1:(ws.map (fun p=>[p.1])).map OU=ws.map (·.1):=by rw [List.map_map];rfl
   rw [e1];exact Dp ru
 | _=>cases e
theorem Rp {kvs:List (List Key × U)} (rm:RelM K H M) (r:aM K H M x v) (e:CC M x=some (.dT kvs)):∃ a ws,v=.ref a/\Rd H a (.dT ws)/\bJ K H M kvs ws:=by
 cases x with
 | ref a=>obtain ⟨ws,h1,h2⟩:=rm a _ e;exact ⟨a,ws,r.ref,.inl h1,h2⟩
 | dic ks tk us =>
  cases tk with
  | false=>cases e
  | true =>
   simp only [CC] at e
   cases e
   simp only [aM] at r
   obtain ⟨a,vs,rfl,m,⟨ws,h1,rfl,rfl⟩,ru⟩:=r
   exact ⟨a,ws,rfl,h1,Dp ru⟩
 | _=>cases e
theorem Eg {ys:List U} {ks:List Key} (hk:vT K) (r:aM K H M (.tup ys) u) (e:oC ys=some ks):∃ b,u=.ref b/\H b=some (.tup (ks.map kV)):=by
 simp only [aM] at r
 obtain ⟨b,vs,rfl,h,ru⟩:=r
 have:=AY ru e
 subst this
 exact ⟨b,rfl,h.2⟩
def vO (tk:Bool) (M:aF) (x y:U):Option (Option U):=match tk with
 | false=>match CC M x,uO y with
  | some (.dK kvs),some k=>some (qU kvs k)
  | _,_=>none
 | true=>match CC M x,y with
  | some (.dT kvs),.tup ys=>(oC ys).map (qU kvs)
  | _,_=>none
theorem HF {tk:Bool} {o:Option U} (hk:tk=true->vT K) (rm:RelM K H M) (rx:aM K H M x v) (ry:aM K H M y u) (e:vO tk M x y=some o):∃ a ov,v=.ref a/\Cb H a u ov/\LS K H M o ov:=by
 cases tk with
 | false =>
  simp only [vO] at e
  split at e
  ·rename_i kvs k e1 e2
   cases e
   obtain ⟨a,ws,rfl,h1,h2⟩:=QX rm rx e1
   have:=wY ry e2
   subst this
   exact ⟨a,_,rfl,.inl ⟨_,k,h1,rfl,rfl⟩,h2.val k⟩
  ·cases e
 | true =>
  simp only [vO] at e
  split at e
  ·rename_i kvs ys e1
   obtain ⟨a,ws,rfl,h1,h2⟩:=Rp rm rx e1
   cases e3:oC ys with
   | none=>rw [e3] at e;cases e
   | some ks =>
    rw [e3] at e;cases e
    obtain ⟨b,rfl,hb⟩:=Eg (hk rfl) ry e3
    exact ⟨a,_,rfl,.inr ⟨_,ks,b,h1,rfl,hb,rfl⟩,h2.val ks⟩
  ·cases e
end
def vJ (tk:Bool):dQ:=fun x y M Q=>match vO tk M x y with
 | some (some u)=>Q u M
 | _=>False
def LY:R2:=fun x y H Q=>∃ a v,x=.ref a/\Cb H a y (some v)/\Q v H
theorem Lk {K:PySem.W.Frag} {tk:Bool} (hk:tk=true->vT K):dJ K LY (vJ tk):=fun x y u w H M Q' rm ru rw h Q c=>by
 unfold vJ at h
 split at h
 ·rename_i z e
  obtain ⟨a,ov,rfl,g,r⟩:=HF hk rm ru rw e
  cases ov with
  | none=>exact r.elim
  | some v=>exact ⟨a,v,rfl,g,c.here rm r h⟩
 ·exact h.elim
section
variable {D:Dat} {a b c e o i:Expr} {ta tb tc te to ti:UE} {pos p:Pos} {es:List Expr} {tas:UA} {x:Str}
theorem FU {K:PySem.W.Frag}:false=true->vT K:=fun h=>by cases h
theorem Ae (tk:Bool) (hk:tk=true->vT D.K) (ha:aY D a ta) (hb:aY D b tb) (hs:KI b:=by intro _ _;rfl):aY D (.Subscript a b pos) (mG (vJ tk) ta tb):=by
 obtain ⟨_,p,s⟩:=ha;obtain ⟨_,q,r⟩:=hb
 exact ⟨En LY _ _,fun X h=>MQ (Mg h.room) (p X h) (q X h) hs,uD (Lk hk) s r⟩
def RE (tk:Bool):MO:=if tk then .dT [] else .dK []
def LU (tk:Bool):UE:=fun _ M Q=>∀ p,M p=none->Q (.ref p) (mup M p (RE tk))
theorem NV (tk:Bool):aY D (.Dict [] [] pos) (LU tk):=by
 cases tk with
 | false =>
  refine ⟨HW,fun X h=>Js,fun σ τ H M Q' rs rm h Q c p hp=>?_⟩
  have st:aR H M (upd H p (.dK [])) (mup M p (.dK [])):=aR.own rm hp
  exact c (.ref p) _ _ _ st (rm.put st ⟨[],cE,.nil⟩) jB (h p (rm.no hp))
 | true =>
  refine ⟨IQ,fun X h=>LC,fun σ τ H M Q' rs rm h Q c p hp=>?_⟩
  have st:aR H M (upd H p (.dT [])) (mup M p (.dT [])):=aR.own rm hp
  exact c (.ref p) _ _ _ st (rm.put st ⟨[],cE,.nil⟩) jB (h p (rm.no hp))
def L7 (tk:Bool) (te to ti:UE):US:=fun D τ M=>te τ M fun v M1=>to τ M1 fun x M2=>ti τ M2 fun y M3=>match x with
 | .ref a=>match tk with
  | false=>match M3 a,uO y with
   | some (.dK kvs),some k=>kvs.length < sizeLine/\D.nx τ (mup M3 a (.dK (sO kvs k v)))
   | _,_=>False
  | true=>match M3 a,y with
   | some (.dT kvs),.tup ys=>match oC ys with
    | some ks=>kvs.length < sizeLine/\D.nx τ (mup M3 a (.dT (sO kvs ks v)))
    | none=>False
   | _,_=>False
 | _=>False
theorem MY (tk:Bool) (hk:tk=true->vT D.K) {tpos:Pos} (he:aY D e te) (ho:aY D o to) (hi:aY D i ti) (hs:∀ env,swapsWith e (some (.Subscript o i tpos)) pos.line env=pure false:=by intro _;rfl):rO D (.Assign [.Subscript o i tpos] e pos) (L7 tk te to ti):=by
 obtain ⟨_,p1,s1⟩:=he;obtain ⟨_,p2,s2⟩:=ho;obtain ⟨_,p3,s3⟩:=hi
 refine ⟨_,fun X h=>MS (Mg h.room) (p2 X h) (p3 X h) (p1 X h) (hs _),fun σ τ H M D' rs rm h EE d=>?_⟩
 refine s1 σ τ H M _ rs rm h _ fun v vv M1 H1 st1 rm1 rv h1=>?_
 refine s2 σ τ H1 M1 _ (rs.stp st1) rm1 h1 _ fun x vx M2 H2 cJ rm2 rx h2=>?_
 refine s3 σ τ H2 M2 _ ((rs.stp st1).stp cJ) rm2 h2 _ fun y vy M3 H3 st3 rm3 ry h3=>?_
 have rv3:=(rv.stp cJ).stp st3
 have rs3:=((rs.stp st1).stp cJ).stp st3
 cases x with
 | ref a =>
  cases (rx.stp st3).ref
  cases tk with
  | false =>
   dsimp only at h3
   split at h3
   ·rename_i kvs k e1 e2
    obtain ⟨hl,q⟩:=h3
    obtain ⟨ws,hv,r⟩:=rm3 a _ e1
    have:=wY ry e2
    subst this
    have st4:aR H3 M3 (upd H3 a (.dK (putK ws k vv))) (mup M3 a (.dK (sO kvs k v))):=aR.write e1
    have rnew:RelM D.K (upd H3 a (.dK (putK ws k vv))) (mup M3 a (.dK (sO kvs k v))):=rm3.put st4 ⟨_,cE,(r.put k rv3).stp st4⟩
    exact ⟨a,_,rfl,.k hv (by rw [<- r.length];exact hl),d.nx _ _ _ _ (((st1.trans cJ).trans st3).trans st4) rnew (rs3.stp st4) q⟩
   ·exact h3.elim
  | true =>
   dsimp only at h3
   split at h3
   ·rename_i kvs ys e1
    split at h3
    ·rename_i ks e2
     obtain ⟨hl,q⟩:=h3
     obtain ⟨ws,hv,r⟩:=rm3 a _ e1
     obtain ⟨b,rfl,hb⟩:=Eg (hk rfl) ry e2
     have st4:aR H3 M3 (upd H3 a (.dT (putK ws ks vv))) (mup M3 a (.dT (sO kvs ks v))):=aR.write e1
     have rnew:RelM D.K (upd H3 a (.dT (putK ws ks vv))) (mup M3 a (.dT (sO kvs ks v))):=rm3.put st4 ⟨_,cE,(r.put ks rv3).stp st4⟩
     exact ⟨a,_,rfl,.t hv hb (by rw [<- r.length];exact hl),d.nx _ _ _ _ (((st1.trans cJ).trans st3).trans st4) rnew (rs3.stp st4) q⟩
    ·exact h3.elim
   ·exact h3.elim
 | _=>exact h3.elim
end
end U2
namespace U2
open PySem PySem.Spec PyProof.Rows L2
end U2
namespace U2
open PySem PySem.Spec PyProof.Rows L2
abbrev F2 (qual:Str) (scope:Scope) (L f c:Addr) (cl:List (Str × Addr)):Env:=PySem.W.envX qual scope L f (.ref c) cl
def BK (P:Program) (w:World) (K:PySem.W.Frag) (mg:Str->Option Value) (base:Heap) (N:List Str) (qual:Str) (scope:Scope) (f c:Addr) (cl:List (Str × Addr)) (A:Around) (outer:List Env) (s:Shared) (H:Hp):Cx where
 prog:=P
 w:=w
 K:=K
 mg:=mg
 base:=base
 A:=A.deeper (F2 qual scope s.heap.objs.size f c cl)
 N:=N
 s₀:=s
 H₀:=H
 env:=F2 qual scope s.heap.objs.size f c cl
 outer:=outer
 stack:=F2 qual scope s.heap.objs.size f c cl :: outer
 ex:=[]
 calm:=true
 fn:=fun _=>false
 pn:=[]
 xe:=fun _ _=>False
structure Dn (N ps:List Str) (sc:Scope):Prop where
 kind:sc.kind=.function
 co:sc.isCoroutine=false
 gen:sc.isGenerator=false
 nd:N.Nodup
 pre:N.take ps.length=ps
 par:∀ x∈ps,sc.names.lookup x=some .local
 cells:∀ y∈sc.names,y.2≠.cell
 cap:∀ x∈N.drop ps.length,sc.names.lookup x=some .free
theorem zK:∀ {ps:List Str} {us:List Value} {i:Nat} {x:Str} {u:Value},ps.Nodup->ps[i]?=some x->us[i]?=some u->(ps.zip us).reverse.lookup x=some u
 | [],_,i,_,_,_,h,_=>by simp at h
 | _ :: _,[],i,_,_,_,_,h=>by simp at h
 | p :: ps,v :: us,i,x,u,nd,h1,h2=>by
  rw [List.zip_cons_cons,List.reverse_cons,List.lookup_append]
  cases i with
  | zero =>
   have e1:p=x:=by simpa using h1
   have e2:v=u:=by simpa using h2
   subst e1;subst e2
   have hn:(ps.zip us).reverse.lookup p=none:=by
    rw [List.lookup_eq_none_iff]
    intro q hq
    have hq':=List.mem_reverse.mp hq
    have:=(List.of_mem_zip hq').1
    have hne:p≠q.1:=fun z=>(List.nodup_cons.mp nd).1 (by rw [z];exact this)
    simpa using hne
   rw [hn]
   simp [List.lookup_cons]
  | succ i =>
   have:=zK (i:=i) (x:=x) (u:=u) (List.nodup_cons.mp nd).2 (by simpa using h1) (by simpa using h2)
   rw [this];rfl
theorem PY {P:Program} {w:World} {K:PySem.W.Frag} {mg:Str->Option Value} {base:Heap} {k:Nat} {fl c:Addr} {name qual:Str} {params:Arguments} {body:Expr} {scope:Scope} {cl:List (Str × Addr)} {pm ctv:Value} {N ps:List Str} {caps:List (Option V)} {sp:Sp}
  (ho:base.get? fl=some (PySem.W.kla_obj name qual params body scope cl pm c ctv)) (hc:base.CodeRec (.ref c) qual) (S:Dn N ps scope)
  (inj:∀ x y a,cl.lookup x=some a->cl.lookup y=some a->x=y) (has:∀ x,scope.names.lookup x=some .free->∃ a,cl.lookup x=some a) (cel:∀ x a,cl.lookup x=some a->∃ v,base.IsCell a v)
  (cap:∀ (j:Nat) x v,N[ps.length + j]?=some x->caps[j]?=some (some v)->∃ a u,cl.lookup x=some a/\base.IsCell a (some u)/\RelV v u) (hlN:N.length=ps.length + caps.length)
  (len:∀ vs H Q E,sp vs H Q E->vs.length=ps.length)
  (hbody:∀ (A:Around) (outer:List Env) (s:Shared) (H:Hp) (vs:List V) (Q:VK) (E:XK),dC k (A.deeper (F2 qual scope s.heap.objs.size fl c cl))->sp vs H Q E ->
   ∃ t,PE (BK P w K mg base N qual scope fl c cl A outer s H) body t/\t (vs.map some++caps) H Q) :
  fF P w K mg base kP (k + 1) fl (PySem.W.kla_fn name qual params body scope cl pm (.ref c) ctv) ps sp:=by
 refine ⟨len,fun A outer s H args us vs Q E hr e0 hb r hsp=>?_⟩
 have hl:=len _ _ _ _ hsp
 have lim:s.heap.NoLimit:=e0.mod.nolimit.keeps fun b o e=>(e0.bs b o e).1
 have hloc:∀ y∈ps.zip us,scope.names.lookup y.1=some .local:=fun ⟨n,v⟩ hy=>S.par n (List.of_mem_zip hy).1
 refine PySem.W.kla_callFunE hr.depth (e0.bs _ _ ho).1 rfl S.co S.gen rfl (hc.keeps fun b o e=>(e0.bs b o e).1) (hb _ _ _ _ ?_)
 refine wpAny_newFunctionEnv S.cells hloc (fun h₁ hns hsb=>⟨lim.fresh _ hsb,PySem.W.kla_codeExpr ?_⟩) S.kind
 have keep:∀ b o,s.heap.get? b=some o->h₁.get? b=some o:=fun b o e=>hsb.extBut b o (Nat.ne_of_lt (Heap.lt_size e)) (Heap.get?_push_of_some _ e)
 obtain ⟨t,ht,hq⟩:=hbody A outer s H vs Q E (hr.deeper _) hsp
 have I:L2.Inv (BK P w K mg base N qual scope fl c cl A outer s H) [] (vs.map some++caps) H { s with heap:=h₁,toks:=s.toks + (ps.zip us).length }:=by
  have noA:∀ b:Addr,b ∉ (BK P w K mg base N qual scope fl c cl A outer s H).ex:=fun b z=>absurd (show b∈([]:List Addr) from z) (by simp)
  refine ⟨⟨e0.mod,S.kind,rfl,rfl,Nat.le_refl _,inj,fun y hy=>?_,fun y a z=>(by cases z),fun _=>hr.hd,Around.frames_deeper e0.frames,.inr ⟨rfl,rfl⟩,fun b z=>absurd z (noA b),e0.bs,e0.bsz,fun b _ _=>noA b,fun b z=>absurd z (noA b),e0.funs,e0.frf⟩,
   rfl,e0.bare,Un.kept keep,⟨_,hns,fun i y v h1 h2 h3=>?_⟩,fun y a h=>?_,e0.hok.fresh (Nat.le_refl _),fun y a h=>?_,fun p hp=>absurd (show p∈([]:List (Addr × Obj)) from hp) (by simp),e0.hok.kept keep,?_⟩
  ·have hy:scope.names.lookup y=some .cell\/scope.names.lookup y=some .free:=hy
   rcases hy with hy | hy
   ·exact absurd rfl (S.cells _ (PySem.mem_of_lookup hy))
   ·exact has y hy
  ·have hlen:(vs.map some).length=ps.length:=by rw [List.length_map,hl]
   by_cases hi:i < ps.length
   ·have ha:vs[i]?=some v:=by
     rw [List.getElem?_append_left (by rw [hlen];exact hi),List.getElem?_map] at h2
     cases e:vs[i]? with
     | none=>rw [e] at h2;cases h2
     | some a=>rw [e] at h2;cases h2;rfl
    obtain ⟨u,hu,rv⟩:=r.get ha
    have hp:ps[i]?=some y:=by rw [<- S.pre,List.getElem?_take_of_lt hi];exact h1
    have ndP:ps.Nodup:=by rw [<- S.pre];exact S.nd.sublist (List.take_sublist _ _)
    exact ⟨u,rv,.inl ⟨S.par y (List.mem_of_getElem? hp),zK ndP hp hu⟩⟩
   ·obtain ⟨j,rfl⟩:∃ j,i=ps.length + j:=⟨i - ps.length,by omega⟩
    rw [List.getElem?_append_right (by rw [hlen];omega),hlen,Nat.add_sub_cancel_left] at h2
    obtain ⟨a,u,e1,e2,e3⟩:=cap j y v h1 h2
    have hk:scope.names.lookup y=some .free:=S.cap y (List.mem_of_getElem? (i:=j) (by rw [List.getElem?_drop];exact h1))
    exact ⟨u,e3,.inr ⟨.inr hk,a,e1,e2.keeps fun b o e=>keep b o (e0.bs b o e).1⟩⟩
  ·obtain ⟨v,hv⟩:=cel y a h
   exact ⟨v,hv.keeps fun b o e=>keep b o (e0.bs b o e).1⟩
  ·obtain ⟨v,o,hv,_⟩:=cel y a h
   exact (e0.bs _ _ hv).2
  ·rw [List.length_append,List.length_map,hl];exact hlN.symm
 refine wpAny_mono (ht [] _ _ H Q I hq) (fun u s' hs=>?_) fun e s' hs=>hs.elim
 obtain ⟨v,H',J,rv,q⟩:=hs
 exact ⟨v,H',J.os,J.bare,J.base,J.hok,rv,q⟩
end U2
namespace U2
open PySem PySem.Spec PyProof.Rows L2
structure IF where
 params:Arguments
 body:Expr
 scope:Scope
def BU (X:Cx) (s:Shared) (H:Hp) (M:aF) (q:Str) (l:IF) (fl:Addr):Prop :=
 ∃ cl pm ctv c oc vs t,closureFor l.scope X.env=pure cl/\(s.heap.get? fl=some (PySem.W.kla_obj "<lambda>" q l.params l.body l.scope cl pm c ctv)/\H fl=none/\fl≠X.env.locals/\fl ∉ X.fs)/\H c=some (.frz oc (.own 0))/\M c=none/\oc.data=.fields vs/\vs[1]?=some (.str q t)
abbrev tN:=SU->aF->(List U->List Addr->aF->Prop)->Prop
def uL (D:Dat) (q:Str) (es:List Expr) (ls:List IF) (t:tN):Prop :=
 ∀ X,lU D X->∀ (pos:Pos) (pins:List (Addr × Obj)) (s:Shared) (σ:L2.St) (H:Hp) (τ:SU) (M:aF) (Q:List U->List Addr->aF->Prop),L2.Inv X pins σ H s->eJ D.K H M σ τ->RelM D.K H M->t τ M Q ->
  wpAny (model X.prog X.w) X.A (spliced (backTo pos (starEach es X.env))) (fun us s'=>∃ ws vs fs M' H',L2.Inv X pins σ H' s'/\Vals vs us/\aR H M H' M'/\RelM D.K H' M'/\aJ D.K H' M' ws vs/\Paired (BU X s' H' M' q) ls fs/\Q ws fs M') X.xe s
def Ft:tN:=fun _ M Q=>Q [] [] M
def C3 (te:UE) (t:tN):tN:=fun τ M Q=>te τ M fun u M1=>t τ M1 fun us fs M2=>Q (u :: us) fs M2
def GX (P:Addr) (q:Str) (t:tN):tN:=fun τ M Q=>M P=some (.tbl q)/\∀ fl,t τ M fun us fs M2=>Q (.ref fl :: us) (fl :: fs) M2
theorem OR {D:Dat} {q:Str}:uL D q [] [] Ft:=fun X h pos pins s σ H τ M Q I rs rm ht=>Calls.spliced_nil ⟨[],[],[],M,H,I,.nil,aR.refl H M,rm,.nil,.nil,ht⟩
theorem NC {D:Dat} {q:Str} {e:Expr} {es:List Expr} {ls:List IF} {te:UE} {t:tN} (ha:aY D e te) (hr:uL D q es ls t) (hs:∀ env,starEach (e :: es) env=(false,eval e env) :: starEach es env:=by intro _;rfl):uL D q (e :: es) ls (C3 te t):=by
 obtain ⟨t0,p,sim⟩:=ha
 intro X h pos pins s σ H τ M Q I rs rm ht
 rw [hs]
 show wpAny _ _ (spliced ((false,eval e X.env) :: backTo pos (starEach es X.env))) _ _ s
 refine Calls.spliced_cons (bI (p X h pins s σ H (fun v H1=>∃ u M1,aR H M H1 M1/\RelM D.K H1 M1/\aM D.K H1 M1 u v/\t τ M1 fun us fs M2=>Q (u :: us) fs M2) I (sim σ τ H M _ rs rm ht _ fun u v M1 H1 st rm1 ru q=>⟨u,M1,st,rm1,ru,q⟩)) fun uu s1 ⟨v,H1,I1,r1,u,M1,st,rm1,ru,q⟩=>?_)
 exact bI (hr X h pos pins s1 σ H1 τ M1 _ I1 (rs.stp st) rm1 q) fun us s2 ⟨ws,vs,fs,M2,H2,I2,rv,cJ,rm2,rus,pl,q2⟩ =>
  ⟨u :: ws,v :: vs,fs,M2,H2,I2,.cons r1 rv,st.trans cJ,rm2,.cons (ru.stp cJ) rus,pl,q2⟩
def gJ (base:Heap) (mg:Str->Option Value):Prop:=∃ bm o,mg "__builtins__"=some (.ref bm)/\bm≠builtinsNs/\bm≠mainGlobals/\base.get? bm=some o/\o.cls=.type "module"/\o.dict=some builtinsNs/\o.data=.plain
theorem GB {pos:Pos} {a b:Int} {c v:Value}:∀ (l:List Value),TriplesOk l->codeAmong pos (l++[rawInt a,rawInt b,c])=some v->codeAmong pos l=some v\/v=c:=fun l h=>by
 fun_induction TriplesOk l with
 | case1 =>
  intro e
  simp only [List.nil_append,codeAmong,rawInt] at e
  split at e
  ·cases e;exact .inr rfl
  ·cases e
 | case2 a' t b' u x rest ih =>
  intro e
  simp only [List.cons_append,codeAmong] at e ⊢
  split at e
  ·rename_i hc;rw [if_pos hc];exact .inl e
  ·rename_i hc;rw [if_neg hc];exact ih h e
 | case3 l h1 h2=>exact h.elim
theorem Inv.addPin {X:Cx} {pins:List (Addr × Obj)} {σ:L2.St} {H:Hp} {s:Shared} {a:Addr} {o:Obj} (I:L2.Inv X pins σ H s) (h:s.heap.get? a=some o/\H a=none/\a≠X.env.locals/\a ∉ X.fs/\∀ v,o.data≠.cell v):L2.Inv X ((a,o) :: pins) σ H s :=
 ⟨I.ok,I.os,I.bare,I.base,I.loc,I.cell,I.free,I.freeC,fun p hp=>by
  rcases List.mem_append.mp hp with hp | hp
  ·exact I.pin p (List.mem_append_left _ hp)
  ·rcases List.mem_cons.mp hp with rfl | hp
   ·exact h
   ·exact I.pin p (List.mem_append_right _ hp),I.hok,I.len⟩
theorem Inv.unPin {X:Cx} {pins:List (Addr × Obj)} {σ:L2.St} {H:Hp} {s:Shared} {a:Addr} {o:Obj} (I:L2.Inv X ((a,o) :: pins) σ H s):L2.Inv X pins σ H s :=
 ⟨I.ok,I.os,I.bare,I.base,I.loc,I.cell,I.free,I.freeC,fun p hp=>I.pin p (by
  rcases List.mem_append.mp hp with hp | hp
  ·exact List.mem_append_left _ hp
  ·exact List.mem_append_right _ (List.mem_cons_of_mem _ hp)),I.hok,I.len⟩
theorem HC {D:Dat} {q:Str} {es:List Expr} {ls:List IF} {t:tN} {params:Arguments} {body:Expr} {scope:Scope} {lpos:Pos} {c0 P:Addr} (hK:PySem.W.codeHdIn D.K c0 P=true) (hB:gJ D.base D.mg) (hr:uL D q es ls t) (hcod:D.cod=.ref c0:=by rfl) (hq:D.qual++"<lambda>"=q:=by rfl)
  (hfree:∀ y∈scope.names,y.2=.free->D.sc.names.lookup y.1=some .cell\/D.sc.names.lookup y.1=some .free:=by first | decide +kernel | (dsimp only;decide +kernel)) (hs:∀ env,starEach (.Lambda params body scope lpos :: es) env=(false,eval (.Lambda params body scope lpos) env) :: starEach es env:=by intro _;rfl) (hdef:∀ env,defaultsOf params env=([],[]):=by intro _;rfl) :
  uL D q (.Lambda params body scope lpos :: es) (⟨params,body,scope⟩ :: ls) (GX P q t):=by
 intro X h pos pins s σ H τ M Q I rs rm ⟨hMP,ht⟩
 obtain ⟨huniq,ps,hHP,htr,hcodes⟩:=rm P _ hMP
 have hPg:s.heap.get? P=some (PySem.W.tabObj ps):=I.hok P _ hHP
 obtain ⟨e1,e2⟩:=h.cod (by rw [hcod];simp)
 rw [hcod] at e1
 obtain ⟨cl,hclos,hcl,hcl2⟩:=tK (env:=X.env) (scope:=scope) (fun x hx e=>I.ok.has x.1 (by show X.env.scope.names.lookup _=_\/X.env.scope.names.lookup _=_;rw [h.sc];exact hfree x hx e))
 have C:PySem.W.CodeHd s.heap c0 P:=PySem.W.codeHd_of_K I.kIn (by rw [h.K];exact hK)
 have hg:s.heap.Ns mainGlobals X.mg:=I.mod.glob.keeps I.bk
 have noP:∀ b o,X.base.get? b=some o->b≠P:=fun b o e z=>by
  have:=(I.bs b o e).2
  rw [z,hHP] at this;cases this
 have hgP:mainGlobals≠P:=by
  obtain ⟨o,es,ep,e,_⟩:=I.mod.glob
  exact noP _ _ e
 have hb:s.heap.BuiltinsAt X.mg P:=by
  obtain ⟨bm,o,b1,b2,b3,b4,b5⟩:=hB
  rw [<- h.base] at b4
  rw [<- h.mg] at b1
  exact ⟨bm,o,b1,b2,b3,noP _ _ b4,I.bk _ _ b4,b5⟩
 rw [hs]
 show wpAny _ _ (spliced ((false,eval (.Lambda params body scope lpos) X.env) :: backTo pos (starEach es X.env))) _ _ s
 refine Calls.spliced_cons (PySem.W.kla_eval (hdef _) ?_)
 rw [e2,hq]
 have done:∀ (H1:Hp) (s1:Shared) (fl c:Addr) (oc:Obj) (vs:Array Value) (tk:Tok) (pm ctv:Value),L2.Inv X pins σ H1 s1->s1.heap.get? fl=some (PySem.W.kla_obj "<lambda>" q params body scope cl pm c ctv)->H1 fl=none->fl≠X.env.locals->fl ∉ X.fs->aR H M H1 M->RelM D.K H1 M->H1 c=some (.frz oc (.own 0))->M c=none->oc.data=.fields vs->vs[1]?=some (.str q tk) ->
   wpAny (model X.prog X.w) X.A (spliced (backTo pos (starEach es X.env))) (fun us s'=>∃ ws vs fs M' H',L2.Inv X pins σ H' s'/\Vals vs (.ref fl :: us)/\aR H M H' M'/\RelM D.K H' M'/\aJ D.K H' M' ws vs/\Paired (BU X s' H' M' q) (⟨params,body,scope⟩ :: ls) fs/\Q ws fs M') X.xe s1:=by
  intro H1 s1 fl c oc vs tk pm ctv I1 hfl hH1 hne hnf st rm1 hc hMc hd hv
  have Ip:=Inv.addPin I1 ⟨hfl,hH1,hne,hnf,fun v z=>by cases z⟩
  refine bI (hr X h pos _ s1 σ H1 τ M _ Ip (rs.stp st) rm1 (ht fl)) fun us s2 ⟨ws,vs',fs,M2,H2,I2,rv,cJ,rm2,rus,pl,q2⟩=>?_
  obtain ⟨p1,p2,p3,p4,_⟩:=I2.pin (fl,_) (List.mem_append_right _ List.mem_cons_self)
  exact ⟨.ref fl :: ws,.ref fl :: vs',fl :: fs,M2,H2,Inv.unPin I2,.cons rfl rv,st.trans cJ,rm2,.cons jB rus,.cons ⟨cl,pm,ctv,c,oc,vs,tk,hclos,⟨p1,p2,p3,p4⟩,(cJ.to hc hMc).1,(cJ.to hc hMc).2,hd,hv⟩ pl,q2⟩
 have hLs:X.env.locals < s.heap.objs.size:=I.lt
 cases hf:codeAmong lpos ps.toList with
 | some cv =>
  obtain ⟨c,oc,vs,tk,rfl,hHc,hMc,hd,hv⟩:=hcodes _ _ hf
  refine PySem.W.kla_makeFunctionHit (mg:=X.mg) hclos I.ok.glob hg e1 C hPg htr hf hb fun ctv h' tk' hk hsz=>?_
  have keep:∀ b o,s.heap.get? b=some o->(h'.push (PySem.W.kla_obj "<lambda>" q params body scope cl ((X.mg "__name__").getD .none) c ctv)).get? b=some o:=fun b o e=>Heap.get?_push_of_some _ (hk b o e)
  exact done H _ h'.objs.size c oc vs tk _ ctv (I.kept (t':=tk') keep) (Heap.get?_push_size _ rfl) (I.hok.fresh hsz) (Nat.ne_of_gt (Nat.lt_of_lt_of_le hLs hsz)) (I.nofs hsz) (aR.refl H M) rm hHc hMc hd hv
 | none =>
  refine PySem.W.kla_makeFunction (mg:=X.mg) hclos I.ok.glob hg e1 C hPg htr hf hgP hb fun c ctv h' tk' hx hge hlt hrec htb=>?_
  obtain ⟨c₂,oc,vs,tk,e2,hoc,hd,hv⟩:=hrec
  cases e2
  have hHc:H c=none:=I.hok.fresh hge
  have hcP:c≠P:=fun z=>by rw [z,hHP] at hHc;cases hHc
  have hsz:s.heap.objs.size<=h'.objs.size:=by omega
  generalize hps:ps++#[rawInt lpos.line,rawInt lpos.col,.ref c]=ps' at htb
  generalize hobj:PySem.W.kla_obj "<lambda>" q params body scope cl ((X.mg "__name__").getD .none) c ctv=obj
  have keep:∀ b o,b≠P->s.heap.get? b=some o->(h'.push obj).get? b=some o:=fun b o n e=>Heap.get?_push_of_some _ (hx b o n e)
  have hH1c:upd (upd H c (.frz oc (.own 0))) P (.tbl ps') c=some (.frz oc (.own 0)):=by rw [bL hcP,cE]
  have hH1:∀ b,b≠P->b≠c->upd (upd H c (.frz oc (.own 0))) P (.tbl ps') b=H b:=fun b n1 n2=>by rw [bL n1,bL n2]
  have hH1P:upd (upd H c (.frz oc (.own 0))) P (.tbl ps') P=some (.tbl ps'):=cE
  generalize hHH:upd (upd H c (.frz oc (.own 0))) P (.tbl ps')=H1 at hH1c hH1 hH1P
  have nc:∀ b o,H b=some o->b≠c:=fun b o e z=>by rw [z,hHc] at e;cases e
  have lt:∀ b o,s.heap.get? b=some o->b≠c:=fun b o e=>Nat.ne_of_lt (Nat.lt_of_lt_of_le (Heap.lt_size e) hge)
  have un:Un X.fs [] H H1 s.heap (h'.push obj):=by
   refine ⟨fun b o e n _ _=>keep b o (fun z=>by rw [z,hHP] at n;cases n) e,fun b o e n _ _=>⟨o.slots,keep b o (fun z=>by rw [z,hHP] at n;cases n) e⟩,fun b o e n _=>?_,fun b o e _=>?_,fun b xs e=>?_,fun b o u e=>?_,fun b qs e=>?_⟩
   ·rw [hH1 b (fun z=>by rw [z,hHP] at n;cases n) (lt b o e)];exact n
   ·by_cases hbP:b=P
    ·subst hbP;exact ⟨_,Heap.get?_push_of_some _ htb⟩
    ·exact ⟨o,keep b o hbP e⟩
   ·rw [hH1 b (fun z=>by rw [z,hHP] at e;cases e) (nc b _ e)];exact e
   ·rw [hH1 b (fun z=>by rw [z,hHP] at e;cases e) (nc b _ e)];exact e
   ·by_cases hbP:b=P
    ·subst hbP
     rw [hHP] at e;cases e
     exact ⟨_,by rw [hH1P,<- hps]⟩
    ·exact ⟨#[],by rw [hH1 b hbP (nc b _ e),e];simp⟩
  have hok:fR X.prog X.w H1 (h'.push obj):=by
   intro b o e
   by_cases hbP:b=P
   ·subst hbP;rw [hH1P] at e;cases e;exact Heap.get?_push_of_some _ htb
   ·by_cases hbc:b=c
    ·subst hbc;rw [hH1c] at e;cases e;exact ⟨Heap.get?_push_of_some _ hoc,_,Heap.get?_push_of_some _ hoc⟩
    ·rw [hH1 b hbP hbc] at e
     refine (I.hok b o e).stay (fun a u ha ea=>keep a u (fun z=>?_) ea) (fun a ea=>?_) (fun a xs ea=>?_)
     ·rcases ha with ha | ha
      ·exact hbP (ha.symm.trans z)
      ·rw [z,hHP] at ha;cases ha
     ·rw [hH1 a (fun z=>by rw [z,hHP] at ea;cases ea) (nc a _ ea)];exact ea
     ·rw [hH1 a (fun z=>by rw [z,hHP] at ea;cases ea) (nc a _ ea)];exact ea
  have hMc:M c=none:=rm.no hHc
  have st:aR H M H1 M:=.by' fun b o e m=>⟨by rw [hH1 b (fun z=>by rw [z,hMP] at m;cases m) (nc b o e)];exact e,m⟩
  have rm1:RelM D.K H1 M:=fun a mo e=>by
   by_cases haP:a=P
   ·subst haP
    rw [hMP] at e;cases e
    refine ⟨huniq,ps',hH1P,by rw [<- hps];simpa using TriplesOk_snoc _ _ _ _ htr,fun pos' v hv'=>?_⟩
    rw [<- hps] at hv'
    have hv2:codeAmong pos' (ps.toList++[rawInt lpos.line,rawInt lpos.col,.ref c])=some v:=by simpa using hv'
    rcases GB ps.toList htr hv2 with z | rfl
    ·obtain ⟨c',oc',vs',t',y1,y2,y3,y4⟩:=hcodes _ _ z
     exact ⟨c',oc',vs',t',y1,(st.to y2 y3).1,y3,y4⟩
    ·exact ⟨c,oc,vs,tk,rfl,hH1c,hMc,hd,hv⟩
   ·have hac:a≠c:=fun z=>by subst z;rw [hMc] at e;cases e
    exact (rm a mo e).stp (fun _ _ z=>z) st (hH1 a haP hac)
  have I1:=I.un (t':=tk') un hok
  refine done H1 _ h'.objs.size c oc vs tk _ ctv I1 (by rw [<- hobj];exact Heap.get?_push_size _ rfl) (by rw [hH1 _ (Nat.ne_of_gt (Nat.lt_of_lt_of_le (Heap.lt_size hPg) hsz)) (Nat.ne_of_gt hlt)];exact I.hok.fresh hsz) (Nat.ne_of_gt (Nat.lt_of_lt_of_le hLs hsz)) (I.nofs hsz) st rm1 hH1c hMc hd hv
end U2
namespace U2
open PySem PySem.Spec PyProof.Rows L2
structure eY (P:Program) (w:World) (K:PySem.W.Frag) (mg:Str->Option Value) (base:Heap) (j:Nat) (f:Addr) (sp:bG):Prop where
 ex:∃ fd ps,fF P w K mg base kP j f fd ps (cL K sp)/\(PySem.W.keepIn K (.ref f)=true\/∃ o fd',base.get? f=some o/\o.data=.func fd')/\Binds K fd ps []
theorem Io {X:Cx} {x:Str} {p pos:Pos} {e:Expr} {es:List Expr} {i k:Nat} {f:Addr} {fd:FuncData} {ps:List Str} {sp:Sp} {t:TA} (hN:X.N[i]?=some x) (hv:El X.env.scope x) (F:fF X.prog X.w X.K X.mg X.base kP k f fd ps sp) (hr:dC k X.A) (hk:PySem.W.keepIn X.K (.ref f)=true\/∃ o fd',X.base.get? f=some o/\o.data=.func fd') (hb:Binds X.K fd ps [])
  (ha:PA X (e :: es) t) (hd:(x == ("__debug__":Str))=false) (hcd:(x == ("__classdict__":Str))=false) (he:starEach (e :: es) X.env=(false,eval e X.env) :: starEach es X.env) (hpl:(backTo pos (starEach es X.env)).any (·.1)=false) :
  PE X (.Call (.Name x p) (e :: es) [] pos) (HE i f sp t):=by
 intro pins s σ H Q I h
 refine wpAny_Call_Name_kw (bI (Hq (i:=i) hN hv hd hcd pins s σ H _ I h) fun v s1 ⟨x',H1,I1,r1,e1,q1⟩=>?_)
 subst e1
 cases r1
 rcases hk with hk | ⟨o,fd',ho,hof⟩
 ·refine PySem.W.callWith_K (h₀:=X.base) I1.ok.mod.kin hk (bI (ha pos pins s1 σ H1 _ I1 q1) fun us s2 ⟨vs,H2,I2,r,q⟩=>⟨I2.kIn,?_⟩) he hpl
  exact y8 (dvs:=[]) F hr hb .nil yD I2 r (by rw [List.append_nil];exact q)
 ·have ha':=ha pos pins s1 σ H1 _ I1 q1
  rw [he] at ha' ⊢
  refine PySem.W.callWith_of (P:=fun h=>h.get? f=some o) (by show ((false || (backTo pos (starEach es X.env)).any (·.1)) || false)=false;rw [hpl];rfl) (fun h0 hh=>?_) (Calls.evalArgs_plain (bI ha' fun us s2 ⟨vs,H2,I2,r,q⟩=>⟨I2.bk _ _ ho,?_⟩))
  ·refine ⟨.frame,.inl rfl,(PySem.W.Looks.ld (part:=none) hh).andThen ?_⟩
   obtain ⟨oc,od,odt,osl⟩:=o
   have:odt=.func fd':=hof
   subst this
   exact .now
  ·exact y8 (dvs:=[]) F hr hb .nil yD I2 r (by rw [List.append_nil];exact q)
section
variable {D:Dat}
theorem Ck (i:Nat) {x:Str} {p pos:Pos} {e:Expr} {es:List Expr} {j:Nat} {f:Addr} {sp:bG} {tas:UA} (F:eY D.prog D.w D.K D.mg D.base j f sp) (ha:kQ D (e :: es) tas) (hN:D.N[i]?=some x:=by rfl) (hv:El D.sc x:=by first | exact Or.inl rfl | exact Or.inr (Or.inl rfl) | exact Or.inr (Or.inr rfl))
  (hj:j<=D.k:=by first | exact Nat.le_refl _ | (dsimp only;omega) | omega | (dsimp only [bR];omega)) (hd:(x == ("__debug__":Str))=false:=by decide) (hcd:(x == ("__classdict__":Str))=false:=by decide)
  (he:∀ env,starEach (e :: es) env=(false,eval e env) :: starEach es env:=by intro _;rfl) (hpl:∀ env,(backTo pos (starEach es env)).any (·.1)=false:=by intro _;rfl):aY D (.Call (.Name x p) (e :: es) [] pos) (uQ i f sp tas):=by
 obtain ⟨fd,ps,F,kp,hb⟩:=F.ex
 obtain ⟨t,q,s⟩:=ha
 refine ⟨HE i f (cL D.K sp) t,fun X h=>?_,fun σ τ H M Q' rs rm h Q c=>?_⟩
 ·have F':fF X.prog X.w X.K X.mg X.base kP j f fd ps (cL D.K sp):=by rw [h.prog,h.w,h.K,h.mg,h.base];exact F
  exact Io (by rw [h.N];exact hN) (by rw [h.sc];exact hv) F' (h.room.mono hj) (by rw [h.K,h.base];exact kp) (by rw [h.K];exact hb) (q X h) hd hcd (he _) (hpl _)
 ·refine Ek i σ τ H M _ rs rm h _ fun u v M1 H1 s1 rm1 ru h1=>?_
  obtain ⟨rfl,h1⟩:=h1
  refine ⟨ru.ref,s σ τ H1 M1 _ (rs.stp s1) rm1 h1 _ fun us vs M2 H2 s2 rm2 rus h2=>?_⟩
  exact ⟨us,M2,Q',rm2,rus,h2,dH.stp c (s1.trans s2)⟩
end
def Cf (H:Hp) (M:aF) (H1:Hp) (M1:aF):Prop:=∀ b o,H b=some o->M b=none->(∀ oc,o≠.frz oc (.own 0))->(∀ ps,o≠.tbl ps)->H1 b=some o/\M1 b=none
mutual
theorem aM.stq {K:PySem.W.Frag} {H H1:Hp} {M M1:aF} (st:Cf H M H1 M1):∀ {u:U} {v:V},aM K H M u v->aM K H1 M1 u v
 | .non,_,h=>by simpa only [aM] using h
 | .bl _,_,h=>by simpa only [aM] using h
 | .int _,_,h=>by simpa only [aM] using h
 | .str _,_,h=>by simpa only [aM] using h
 | .ty _,_,h=>by simpa only [aM] using h
 | .ref _,_,h=>by simpa only [aM] using h
 | .tup us,_,h=>by
  simp only [aM] at h ⊢
  obtain ⟨a,vs,e,h1,h2⟩:=h
  refine ⟨a,vs,e,?_,aJ.stq st h2⟩
  obtain ⟨m,r⟩:=h1
  have q:=st a _ r m (by simp) (by simp)
  exact ⟨q.2,q.1⟩
 | .dic ks tk us,_,h=>by
  simp only [aM] at h ⊢
  obtain ⟨a,vs,e,m,h1,h2⟩:=h
  refine ⟨a,vs,e,?_,?_,aJ.stq st h2⟩
  ·cases tk with
   | true=>obtain ⟨ws,e | ⟨o,e⟩,r⟩:=h1 <;> exact (st a _ e m (by intro oc z;cases z) (by simp)).2
   | false=>obtain ⟨ws,e | ⟨o,e⟩,r⟩:=h1 <;> exact (st a _ e m (by intro oc z;cases z) (by simp)).2
  ·cases tk with
   | true=>obtain ⟨ws,e | ⟨o,e⟩,r⟩:=h1;exact ⟨ws,.inl (st a _ e m (by simp) (by simp)).1,r⟩;exact ⟨ws,.inr ⟨o,(st a _ e m (by intro oc z;cases z) (by simp)).1⟩,r⟩
   | false=>obtain ⟨ws,e | ⟨o,e⟩,r⟩:=h1;exact ⟨ws,.inl (st a _ e m (by simp) (by simp)).1,r⟩;exact ⟨ws,.inr ⟨o,(st a _ e m (by intro oc z;cases z) (by simp)).1⟩,r⟩
 | .lst us,_,h=>by
  simp only [aM] at h ⊢
  obtain ⟨a,vs,e,h1,h2⟩:=h
  refine ⟨a,vs,e,?_,aJ.stq st h2⟩
  rcases h1 with ⟨m,r⟩ | k
  ·rcases r with r | ⟨o,r⟩
   ·have q:=st a _ r m (by simp) (by simp)
    exact .inl ⟨q.2,.inl q.1⟩
   ·have q:=st a _ r m (by intro oc z;cases z) (by simp)
    exact .inl ⟨q.2,.inr ⟨o,q.1⟩⟩
  ·exact .inr k
theorem aJ.stq {K:PySem.W.Frag} {H H1:Hp} {M M1:aF} (st:Cf H M H1 M1):∀ {us:List U} {vs:List V},aJ K H M us vs->aJ K H1 M1 us vs
 | [],_,h=>by simpa only [aJ] using h
 | u :: us,_,h=>by
  simp only [aJ] at h ⊢
  obtain ⟨v,vs',e,h1,h2⟩:=h
  exact ⟨v,vs',e,aM.stq st h1,aJ.stq st h2⟩
end
theorem bJ.stq {κ:Type} {K:PySem.W.Frag} {H H1:Hp} {M M1:aF} (st:Cf H M H1 M1):∀ {us:List (κ × U)} {vs:List (κ × V)},bJ K H M us vs->bJ K H1 M1 us vs
 | _,_,.nil=>.nil
 | _,_,.cons h t=>.cons ⟨h.1,h.2.stq st⟩ (bJ.stq st t)
def eG (q:Str) (o:Option HO):Prop:=∃ oc vs t,o=some (.frz oc (.own 0))/\oc.data=.fields vs/\vs[1]?=some (.str q t)
open Classical in
noncomputable def jL (q:Str) (H:Hp):Hp:=fun b=>if eG q (H b) then none else H b
open Classical in
noncomputable def nG (q:Str) (H H2:Hp):Hp:=fun b=>if eG q (H b) then H b else H2 b
def iX (M:aF) (a:Addr):aF:=fun b=>if b=a then none else M b
theorem lT {M:aF} {a:Addr}:iX M a a=none:=by unfold iX;rw [if_pos rfl]
theorem kH {M:aF} {a b:Addr} (h:b≠a):iX M a b=M b:=by unfold iX;rw [if_neg h]
theorem qF {q:Str} {H:Hp} {b:Addr} (h:eG q (H b)):jL q H b=none:=by unfold jL;exact if_pos h
theorem cN {q:Str} {H:Hp} {b:Addr} (h:¬ eG q (H b)):jL q H b=H b:=by unfold jL;exact if_neg h
theorem t5 {q:Str} {H H2:Hp} {b:Addr} (h:eG q (H b)):nG q H H2 b=H b:=by unfold nG;exact if_pos h
theorem cO {q:Str} {H H2:Hp} {b:Addr} (h:¬ eG q (H b)):nG q H H2 b=H2 b:=by unfold nG;exact if_neg h
theorem dM {q:Str} {o:HO} (h:eG q (some o)):∃ oc,o=.frz oc (.own 0):=by
 obtain ⟨oc,_,_,e,_⟩:=h;cases e;exact ⟨oc,rfl⟩
theorem xT {q:Str}:¬ eG q none:=fun ⟨_,_,_,e,_⟩=>by cases e
theorem Ny {q q':Str} {oc:Obj} {vs:Array Value} {t:Tok} (hd:oc.data=.fields vs) (hv:vs[1]?=some (.str q' t)) (h:eG q (some (.frz oc (.own 0)))):q=q':=by
 obtain ⟨oc',vs',t',e,h1,h2⟩:=h
 cases e
 rw [hd] at h1;cases h1
 rw [hv] at h2;cases h2;rfl
theorem II {q:Str} {H:Hp} {b:Addr} {o:HO} (h:jL q H b=some o):H b=some o/\¬ eG q (H b):=by
 by_cases hc:eG q (H b)
 ·rw [qF hc] at h;cases h
 ·rw [cN hc] at h;exact ⟨h,hc⟩
theorem Nx {K:PySem.W.Frag} {H:Hp} {M:aF} {P:Addr} {q:Str} (rm:RelM K H M) (hP:M P=some (.tbl q)):Cf H M (jL q H) (iX M P)/\RelM K (jL q H) (iX M P):=by
 have sq:Cf H M (jL q H) (iX M P):=fun b o e m n1 n2=>by
  refine ⟨?_,?_⟩
  ·rw [cN (fun z=>by rw [e] at z;obtain ⟨oc,z⟩:=dM z;exact n1 oc z)];exact e
  ·by_cases hb:b=P
   ·rw [hb,lT]
   ·rw [kH hb];exact m
 refine ⟨sq,fun a mo e=>?_⟩
 have ha:a≠P:=fun z=>by rw [z,lT] at e;cases e
 rw [kH ha] at e
 have h:=rm a mo e
 cases mo with
 | lst us=>obtain ⟨vs,x,y⟩:=h;exact ⟨vs,by rw [cN (fun z=>by rw [x] at z;obtain ⟨oc,z⟩:=dM z;cases z)];exact x,y.stq sq⟩
 | dK us=>obtain ⟨vs,x,y⟩:=h;exact ⟨vs,by rw [cN (fun z=>by rw [x] at z;obtain ⟨oc,z⟩:=dM z;cases z)];exact x,y.stq sq⟩
 | dT us=>obtain ⟨vs,x,y⟩:=h;exact ⟨vs,by rw [cN (fun z=>by rw [x] at z;obtain ⟨oc,z⟩:=dM z;cases z)];exact x,y.stq sq⟩
 | dN us=>obtain ⟨vs,x,y⟩:=h;exact ⟨vs,by rw [cN (fun z=>by rw [x] at z;obtain ⟨oc,z⟩:=dM z;cases z)];exact x,y.stq sq⟩
 | ins C dx us=>obtain ⟨vs,x,y⟩:=h;exact ⟨vs,by rw [cN (fun z=>by rw [x] at z;obtain ⟨oc,z⟩:=dM z;cases z)];exact x,y.stq sq⟩
 | cap ps vs us=>exact ⟨by rw [cN (fun z=>by rw [h.1] at z;obtain ⟨oc,z⟩:=dM z;cases z)];exact h.1,h.2.stq sq⟩
 | tbl q' =>
  obtain ⟨un,ps,x,y,z⟩:=h
  have hq:q'≠q:=fun w=>by subst w;exact ha (un P hP).symm
  refine ⟨fun b hb=>un b (by by_cases hbP:b=P;rw [hbP,lT] at hb;cases hb;rw [kH hbP] at hb;exact hb),ps,by rw [cN (fun z=>by rw [x] at z;obtain ⟨oc,z⟩:=dM z;cases z)];exact x,y,fun pos c hc=>?_⟩
  obtain ⟨c',oc,vs,t,h1,h2,h3,h4,h5⟩:=z pos c hc
  refine ⟨c',oc,vs,t,h1,?_,?_,h4,h5⟩
  ·rw [cN (fun z=>by rw [h2] at z;exact hq (Ny h4 h5 z).symm)];exact h2
  ·by_cases hb:c'=P
   ·rw [hb,lT]
   ·rw [kH hb];exact h3
theorem MD {K:PySem.W.Frag} {H H2:Hp} {M M2:aF} {P:Addr} {q:Str} (rm:RelM K H M) (hP:M P=some (.tbl q)) (st:aR (jL q H) (iX M P) H2 M2) (rm2:RelM K H2 M2) (hn:∀ b,eG q (H b)->H2 b=none) (hu:∀ b,M2 b=some (.tbl q)->b=P) :
  aR H M (nG q H H2) (mup M2 P (.tbl q))/\Cf H2 M2 (nG q H H2) (mup M2 P (.tbl q))/\RelM K (nG q H H2) (mup M2 P (.tbl q)):=by
 obtain ⟨un,ps,hHP,htr,hcodes⟩:=rm P _ hP
 have nP:¬ eG q (H P):=fun z=>by rw [hHP] at z;obtain ⟨oc,z⟩:=dM z;cases z
 obtain ⟨h2P,m2P⟩:=st.to (b:=P) (o:=.tbl ps) (by rw [cN nP];exact hHP) lT
 have S1:aR H M (nG q H H2) (mup M2 P (.tbl q)):=fun b o e m=>by
  have hb:b≠P:=fun z=>by rw [z,hP] at m;cases m
  by_cases hc:eG q (H b)
  ·exact ⟨.inl (by rw [t5 hc];exact e),by rw [aG hb];exact rm2.no (hn b hc)⟩
  ·obtain ⟨a1,a2⟩:=st b o (by rw [cN hc];exact e) (by rw [kH hb];exact m)
   exact ⟨by rw [cO hc];exact a1,by rw [aG hb];exact a2⟩
 have S2:Cf H2 M2 (nG q H H2) (mup M2 P (.tbl q)):=fun b o e m n1 n2=>by
  have hb:b≠P:=fun z=>by rw [z,h2P] at e;cases e;exact n2 ps rfl
  have hc:¬ eG q (H b):=fun z=>by rw [hn b z] at e;cases e
  exact ⟨by rw [cO hc];exact e,by rw [aG hb];exact m⟩
 refine ⟨S1,S2,fun a mo e=>?_⟩
 by_cases ha:a=P
 ·subst ha
  rw [aD] at e;cases e
  refine ⟨fun b hb=>?_,ps,by rw [cO nP];exact h2P,htr,fun pos c hc=>?_⟩
  ·by_cases hba:b=a
   ·exact hba
   ·rw [aG hba] at hb;exact hu b hb
  ·obtain ⟨c',oc,vs,t,h1,h2,h3,h4⟩:=hcodes pos c hc
   obtain ⟨a1,a2⟩:=S1.to h2 h3
   exact ⟨c',oc,vs,t,h1,a1,a2,h4⟩
 ·rw [aG ha] at e
  have h:=rm2 a mo e
  obtain ⟨o,ho⟩:=rm2.ex e
  have hc:¬ eG q (H a):=fun z=>by rw [hn a z] at ho;cases ho
  cases mo with
  | lst us=>obtain ⟨vs,x,y⟩:=h;exact ⟨vs,by rw [cO hc];exact x,y.stq S2⟩
  | dK us=>obtain ⟨vs,x,y⟩:=h;exact ⟨vs,by rw [cO hc];exact x,y.stq S2⟩
  | dT us=>obtain ⟨vs,x,y⟩:=h;exact ⟨vs,by rw [cO hc];exact x,y.stq S2⟩
  | dN us=>obtain ⟨vs,x,y⟩:=h;exact ⟨vs,by rw [cO hc];exact x,y.stq S2⟩
  | ins C dx us=>obtain ⟨vs,x,y⟩:=h;exact ⟨vs,by rw [cO hc];exact x,y.stq S2⟩
  | cap ps vs us=>exact ⟨by rw [cO hc];exact h.1,h.2.stq S2⟩
  | tbl q' =>
   obtain ⟨un',ps',x,y,z⟩:=h
   have hqq:q'≠q:=fun w=>by subst w;exact ha (hu a e)
   refine ⟨fun b hb=>un' b (by by_cases hbP:b=P;subst hbP;rw [aD] at hb;exact absurd (by cases hb;rfl) hqq;rw [aG hbP] at hb;exact hb),ps',by rw [cO hc];exact x,y,fun pos c hcc=>?_⟩
   obtain ⟨c',oc,vs,t,h1,h2,h3,h4⟩:=z pos c hcc
   have hc':¬ eG q (H c'):=fun z=>by rw [hn c' z] at h2;cases h2
   refine ⟨c',oc,vs,t,h1,by rw [cO hc'];exact h2,?_,h4⟩
   by_cases hb:c'=P
   ·rw [hb,h2P] at h2;cases h2
   ·rw [aG hb];exact h3
end U2
namespace U2
open PySem PySem.Spec PyProof.Rows L2
def Rc (n:Nat) (te:UE) (caps:SU):bG:=fun us M Q=>us.length=n/\te (us.map some++caps) M Q
structure tL where
 lam:IF
 N:List Str
 ps:List Str
 ix:List Nat
 te:UE
def CI (D:Dat) (base:Heap) (k:Nat) (N:List Str) (sc:Scope):Dat:={ D with base:=base,N:=N,sc:=sc,k:=k,fn:=false,cod:=.none }
structure yN (D:Dat) (k:Nat) (L:tL):Prop where
 sc:Dn L.N L.ps L.lam.scope
 len:L.N.length=L.ps.length + L.ix.length
 ix:L.ix.map (fun i=>D.N[i]?)=(L.N.drop L.ps.length).map some
 free:∀ y∈L.lam.scope.names,y.2=.free->D.sc.names.lookup y.1=some .cell\/D.sc.names.lookup y.1=some .free
 cap:∀ x∈L.N.drop L.ps.length,D.sc.names.lookup x=some .cell\/D.sc.names.lookup x=some .free
 body:∀ base,gJ base D.mg->aY (CI D base k L.N L.lam.scope) L.lam.body L.te
 bind:∀ (q:Str) (cl:List (Str × Addr)) (pm cd ct:Value) (us:List Value),us.length=L.ps.length->bindArgs (PySem.W.kla_fn "<lambda>" q L.lam.params L.lam.body L.lam.scope cl pm cd ct) ⟨us,[]⟩=pure (L.ps.zip us)
def sN:U->Prop
 | .tup _=>False
 | .lst _=>False
 | .dic _ _ _=>False
 | _=>True
theorem aM.flat {K:PySem.W.Frag} {H H1:Hp} {M M1:aF} {u:U} {v:V} (h:sN u) (r:aM K H M u v):aM K H1 M1 u v:=by
 cases u <;> first | exact h.elim | simpa only [aM] using r
def oR (L:tL) (τ:SU):SU:=L.ix.map fun i=>(τ[i]?).getD none
def o7 (L:tL) (τ:SU):bG:=Rc L.ps.length L.te (oR L τ)
def rM (G:SU->List U->List Addr->aF->UK->Prop) (t:tN):UE:=fun τ M Q=>t τ M fun us fs M1=>G τ us fs M1 Q
theorem Kc {α:Type} {a b:α} (h:(pure a:Sem α)=pure b):a=b:=by
 have h':(Sem.pure a:Sem α)=Sem.pure b:=h
 injection h'
open Classical in
theorem KQ {D:Dat} {x:Str} {p pos:Pos} {e:Expr} {es:List Expr} {f P:Addr} {q:Str} {j k:Nat} {Ls:List tL} {sp:List (Addr × bG)->bG} {t:tN} {G:SU->List U->List Addr->aF->UK->Prop} (hm:D.mg x=some (.ref f)) (hk:PySem.W.keepIn D.K (.ref f)=true)
  (F:∀ (base:Heap) (fs:List (Addr × bG)),fs.length=Ls.length->gJ base D.mg->(∀ l∈fs,eY D.prog D.w D.K D.mg base (k + 1) l.1 l.2)->Callee D.prog D.w D.K D.mg base j x (sp fs) [])
  (hG:∀ τ us fs M1 Q,fs.length=Ls.length->G τ us fs M1 Q->M1 P=some (.tbl q)/\(∀ L∈Ls,∀ u,some u∈oR L τ->sN u) /\
   ((∀ b,iX M1 P b≠some (.tbl q))->sp (fs.zip (Ls.map fun L=>o7 L τ)) us (iX M1 P) fun u M2=>(∀ b,M2 b≠some (.tbl q))/\Q u (mup M2 P (.tbl q))))
  (hB:gJ D.base D.mg) (hL:∀ L∈Ls,yN D k L) (ha:uL D q (e :: es) (Ls.map (·.lam)) t)
  (hj:j<=D.k:=by first | exact Nat.le_refl _ | (dsimp only;omega) | omega) (hfn:D.fn=true:=by rfl) (hg:D.sc.names.lookup x=some .globalImplicit:=by rfl) (hdb:(x == ("__debug__":Str))=false:=by decide)
  (he:∀ env,starEach (e :: es) env=(false,eval e env) :: starEach es env:=by intro _;rfl) (hpl:∀ env,(backTo pos (starEach es env)).any (·.1)=false:=by intro _;rfl):aY D (.Call (.Name x p) (e :: es) [] pos) (rM G t):=by
 refine ⟨fun σ H Q=>∃ τ M Q',eJ D.K H M σ τ/\RelM D.K H M/\rM G t τ M Q'/\dH D.K H M Q' Q,fun X h=>?_,fun σ τ H M Q' rs rm ht Q c=>⟨τ,M,Q',rs,rm,ht,c⟩⟩
 intro pins s σ H Q I ⟨τ,M,Q',rs,rm,ht,cont⟩
 refine wpAny_Call_Name_kw (vZ I (by show X.env.scope.names.lookup x=_;rw [h.sc];exact hg) (by rw [h.mg];exact hm) ?_ hdb)
 refine PySem.W.callWith_K (h₀:=X.base) I.ok.mod.kin (by rw [h.K];exact hk) (bI (ha X h pos pins s σ H τ M _ I rs rm ht) fun us s1 ⟨ws,vs,fs,M1,H1,I1,rv,st1,rm1,rus,pl,q0⟩=>⟨I1.kIn,?_⟩) (he _) (hpl _)
 have hfl:fs.length=Ls.length:=by have:=Paired.length pl;rw [List.length_map] at this;exact this.symm
 obtain ⟨hMP,hflat,q1⟩:=hG _ _ _ _ _ hfl q0
 obtain ⟨huniq,_⟩:=rm1 P _ hMP
 have hno:∀ b,iX M1 P b≠some (.tbl q):=fun b z=>by
  by_cases hb:b=P
  ·rw [hb,lT] at z;cases z
  ·rw [kH hb] at z;exact hb (huniq b z)
 obtain ⟨sq,rmH⟩:=Nx rm1 hMP
 let Hh:Hp:=fun b=>if b∈iU X.stack then some (.own 0) else jL q H1 b
 have hHh:∀ b,b ∉ iU X.stack->jL q H1 b=none->Hh b=none:=fun b h1 h2=>by show (if b∈iU X.stack then some (.own 0) else jL q H1 b)=none;rw [if_neg h1];exact h2
 have hHn:∀ b,Hh b=none->b ∉ iU X.stack/\jL q H1 b=none:=fun b hb=>by
  have hb':(if b∈iU X.stack then some (HO.own 0) else jL q H1 b)=none:=hb
  by_cases hm:b∈iU X.stack
  ·rw [if_pos hm] at hb';cases hb'
  ·rw [if_neg hm] at hb';exact ⟨hm,hb'⟩
 have nofr:∀ b o,X.base.get? b=some o->b ∉ iU X.stack:=fun b o e hb=>by
  have:=(I1.stack.mem hb).1
  rw [e] at this;cases this
 have hid0:∀ b,H1 b=none->jL q H1 b=none:=fun b e=>by rw [cN (by rw [e];exact xT)];exact e
 have up:∀ b o,X.base.get? b=some o->(fP s1.heap Hh).get? b=some o:=fun b o e=>pP (I1.bk b o e) (hHh b (nofr b o e) (hid0 b (I1.bs b o e).2))
 have hBm:gJ (fP s1.heap Hh) D.mg:=by
  obtain ⟨bm,o,b1,b2,b3,b4,b5⟩:=hB
  rw [<- h.base] at b4
  exact ⟨bm,o,b1,b2,b3,up _ _ b4,b5⟩
 have e0:uS X.prog X.w X.K X.mg (fP s1.heap Hh) X.A X.stack s1 (jL q H1):=by
  have m:=I1.ok.mod
  refine ⟨I1.ok.frames,⟨m.kin.keeps up,m.glob.keeps up,let ⟨mb,a,b⟩:=m.blt;⟨mb,a.keeps up,b⟩,m.nolimit.keeps up⟩,fun b o e=>?_,Nat.le_of_eq (AU _ _),?_,fun b hb=>hid0 b (I1.stkFree b hb),fun b o e=>?_,I1.bare⟩
  ·obtain ⟨a,b2⟩:=AA e
   exact ⟨a,(hHn b b2).2⟩
  ·have:∀ l:List Env,(∀ b∈iU l,b∈iU X.stack)->s1.heap.FunFrames X.base l->s1.heap.FunFrames (fP s1.heap Hh) l:=by
    intro l
    induction l with
    | nil=>intro _ _;trivial
    | cons env rest ih =>
     intro hs ⟨hk,⟨L,o,hf,hn,ho,hd⟩,hr⟩
     refine ⟨hk,⟨L,o,hf,?_,ho,hd⟩,ih (fun b hb=>hs b (by unfold iU at hb ⊢;rw [List.filterMap_cons,hf];exact List.mem_cons_of_mem _ hb)) hr⟩
     cases hq:(fP s1.heap Hh).get? L with
     | none=>rfl
     | some o'=>exact absurd (hs L (by unfold iU;rw [List.filterMap_cons,hf];exact List.mem_cons_self)) (hHn L (AA hq).2).1
   exact this X.stack (fun _ hb=>hb) I1.stack
  ·obtain ⟨e1,e2⟩:=II e
   refine (I1.hok b o e1).stay (fun _ _ _ z=>z) (fun a ea=>?_) (fun a xs ea=>?_)
   ·rw [cN (fun z=>by rw [ea] at z;obtain ⟨_,z⟩:=dM z;cases z)];exact ea
   ·rw [cN (fun z=>by rw [ea] at z;obtain ⟨_,z⟩:=dM z;cases z)];exact ea
 have one:∀ (L:tL) (fl:Addr),yN D k L->BU X s1 H1 M1 q L.lam fl->(∀ u,some u∈oR L τ->sN u)->eY D.prog D.w D.K D.mg (fP s1.heap Hh) (k + 1) fl (o7 L τ):=by
  intro L fl ok la hfl
  obtain ⟨cl,pm,ctv,c,oc,cvs,tk,hclos,⟨ho,hf0,hf1,hf2⟩,hc,hMc,hd,hv⟩:=la
  obtain ⟨cl',hclos',hcl,hcl2⟩:=tK (env:=X.env) (scope:=L.lam.scope) (fun y hy e=>I1.ok.has y.1 (by show X.env.scope.names.lookup _=_\/X.env.scope.names.lookup _=_;rw [h.sc];exact ok.free y hy e))
  have ecl:cl'=cl:=Kc (hclos'.symm.trans hclos)
  subst ecl
  have nst:∀ b,b≠X.env.locals->b ∉ X.fs->b ∉ iU X.stack:=fun b n1 n2 hb=>by
   rcases List.mem_cons.mp (I1.stkSub b hb) with z | z
   ·exact n1 z
   ·exact n2 z
  have bfl:(fP s1.heap Hh).get? fl=some (PySem.W.kla_obj "<lambda>" q L.lam.params L.lam.body L.lam.scope cl' pm c ctv):=pP ho (hHh fl (nst fl hf1 hf2) (hid0 fl hf0))
  have hoc:s1.heap.get? c=some oc:=(I1.hok c _ hc).1
  have bc:(fP s1.heap Hh).get? c=some oc:=pP hoc (hHh c (fun hb=>by rw [I1.stkFree c hb] at hc;cases hc) (qF ⟨oc,cvs,tk,hc,hd,hv⟩))
  have hold:∀ y a,cl'.lookup y=some a->∀ o,s1.heap.get? a=some o->(fP s1.heap Hh).get? a=some o:=fun y a e o eo=>by
   have ec:=hcl y a e
   refine pP eo (hHh a (nst a (I1.cne y a ec) (fun hb=>?_)) (hid0 a (I1.freeC y a ec)))
   have h1:=I1.ok.cab y a (h.fn hfn y) ec
   obtain ⟨_,o',ho',_⟩:=I1.ok.funs.mem hb
   exact absurd (Heap.lt_size ho') (Nat.not_lt.mpr h1)
  have cells:∀ y a v,cl'.lookup y=some a->s1.heap.IsCell a v->(fP s1.heap Hh).IsCell a v:=fun y a v e ⟨o,ho,hd⟩=>⟨o,hold y a e o ho,hd⟩
  obtain ⟨m,hns,hloc⟩:=I1.loc
  refine ⟨PySem.W.kla_fn "<lambda>" q L.lam.params L.lam.body L.lam.scope cl' pm (.ref c) ctv,L.ps,?_,.inr ⟨_,_,bfl,rfl⟩,.all fun us hl=>ok.bind q cl' pm _ _ us hl⟩
  have capV:∃ caps:List (Option V),caps=L.ix.map (fun i=>(σ[i]?).getD none):=⟨_,rfl⟩
  obtain ⟨caps,hcaps⟩:=capV
  refine PY (N:=L.N) (caps:=caps) bfl ⟨c,oc,cvs,tk,rfl,bc,hd,hv⟩ ok.sc (fun y z a e1 e2=>I1.ok.inj y z a (hcl y a e1) (hcl z a e2)) (fun y hy=>hcl2 y (PySem.mem_of_lookup hy)) (fun y a e=>?_) (fun jj y v e1 e2=>?_) (by rw [hcaps,List.length_map];exact ok.len) (fun vs H Q E ⟨us,M,Q',_,r,hs,_⟩=>by rw [<- r.length];exact hs.1) ?_
  ·obtain ⟨v,hv⟩:=I1.cell y a (hcl y a e)
   exact ⟨v,cells y a v e hv⟩
  ·
   rw [hcaps,List.getElem?_map] at e2
   cases hi:L.ix[jj]? with
   | none=>rw [hi] at e2;cases e2
   | some i =>
    rw [hi] at e2
    simp only [Option.map_some,Option.some.injEq] at e2
    have eN:D.N[i]?=some y:=by
     have h1:(L.ix.map fun i=>D.N[i]?)[jj]?=some (D.N[i]?):=by rw [List.getElem?_map,hi];rfl
     rw [ok.ix,List.getElem?_map,List.getElem?_drop,e1] at h1
     exact (Option.some.inj h1).symm
    have eσ:σ[i]?=some (some v):=by
     cases hz:σ[i]? with
     | none=>rw [hz] at e2;cases e2
     | some o=>rw [hz] at e2;simp only [Option.getD_some] at e2;rw [e2]
    have hmem:y∈L.N.drop L.ps.length:=List.mem_of_getElem? (i:=jj) (by rw [List.getElem?_drop];exact e1)
    have hkind:=ok.cap y hmem
    obtain ⟨u,ru,lk⟩:=hloc i y v (by rw [h.N];exact eN) eσ (by unfold El;rw [h.sc];rcases hkind with z | z;exact .inr (.inl z);exact .inr (.inr z))
    rcases lk with ⟨k1,_⟩ | ⟨_,a,e3,e4⟩
    ·have k1':X.env.scope.names.lookup y=some .local:=k1
     rw [h.sc] at k1'
     rcases hkind with z | z <;> (rw [z] at k1';cases k1')
    ·obtain ⟨a',ea'⟩:=hcl2 y (PySem.mem_of_lookup (ok.sc.cap y hmem))
     have:a'=a:=by have:=hcl y a' ea';rw [e3] at this;cases this;rfl
     subst this
     exact ⟨a',u,ea',cells y a' _ ea' e4,ru⟩
  ·intro A outer s2 H2 vs2 Q2 E2 hr ⟨us2,M2,Q2',rm2,rus2,⟨hl2,hte⟩,c2⟩
   obtain ⟨tb,pb,sb⟩:=ok.body (fP s1.heap Hh) hBm
   refine ⟨tb,?_,?_⟩
   ·have hh:=pb (BK X.prog X.w X.K X.mg (fP s1.heap Hh) L.N q L.lam.scope fl c cl' A outer s2 H2) ⟨h.prog,h.w,h.K,h.mg,rfl,rfl,rfl,hr,rfl,rfl,(fun z=>by cases z),(fun z=>absurd rfl z),(fun z=>by cases z)⟩
    rw [h.prog,h.w,h.K,h.mg] at hh
    exact hh
   ·refine sb _ _ H2 M2 _ ?_ rm2 hte _ c2
    refine ⟨by rw [List.length_append,List.length_append,List.length_map,List.length_map,rus2.length,hcaps];unfold oR;rw [List.length_map,List.length_map],fun i u ei=>?_⟩
    have hlv:vs2.length=us2.length:=rus2.length.symm
    by_cases hi:i < us2.length
    ·rw [List.getElem?_append_left (by rw [List.length_map];exact hi),List.getElem?_map] at ei
     cases hu:us2[i]? with
     | none=>rw [hu] at ei;cases ei
     | some u' =>
      rw [hu] at ei
      simp only [Option.map_some,Option.some.injEq] at ei
      subst ei
      obtain ⟨v,hv,rv⟩:=rus2.get hu
      exact ⟨v,by rw [List.getElem?_append_left (by rw [List.length_map,hlv];exact hi),List.getElem?_map,hv];rfl,rv⟩
    ·rw [List.getElem?_append_right (by rw [List.length_map];omega),List.length_map] at ei
     have hin:some u∈oR L τ:=List.mem_of_getElem? ei
     have hf:=hfl u hin
     unfold oR at ei
     rw [List.getElem?_map] at ei
     cases hj:L.ix[i - us2.length]? with
     | none=>rw [hj] at ei;cases ei
     | some i' =>
      rw [hj] at ei
      simp only [Option.map_some,Option.some.injEq] at ei
      have eτ:τ[i']?=some (some u):=by
       cases hz:τ[i']? with
       | none=>rw [hz] at ei;cases ei
       | some o=>rw [hz] at ei;simp only [Option.getD_some] at ei;rw [ei]
      obtain ⟨v,hv,rv⟩:=rs.2 i' u eτ
      refine ⟨v,?_,aM.flat hf rv⟩
      rw [List.getElem?_append_right (by rw [List.length_map,hlv];omega),List.length_map,hlv,hcaps,List.getElem?_map,hj]
      simp only [Option.map_some,hv,Option.getD_some]
 have lams:∀ l∈fs.zip (Ls.map fun L=>o7 L τ),eY D.prog D.w D.K D.mg (fP s1.heap Hh) (k + 1) l.1 l.2:=by
  have:∀ (Ls:List tL) (fs:List Addr),(∀ L∈Ls,yN D k L)->(∀ L∈Ls,∀ u,some u∈oR L τ->sN u)->Paired (BU X s1 H1 M1 q) (Ls.map (·.lam)) fs->∀ l∈fs.zip (Ls.map fun L=>o7 L τ),eY D.prog D.w D.K D.mg (fP s1.heap Hh) (k + 1) l.1 l.2:=by
   intro Ls
   induction Ls with
   | nil=>intro fs _ _ p l hl;simp at hl
   | cons L Ls ih =>
    intro fs ok fl p l hl
    rw [List.map_cons] at p
    cases p with
    | cons h1 h2 =>
     rw [List.map_cons,List.zip_cons_cons] at hl
     rcases List.mem_cons.mp hl with rfl | hl
     ·exact one L _ (ok L List.mem_cons_self) h1 (fl L List.mem_cons_self)
     ·exact ih _ (fun L hL=>ok L (List.mem_cons_of_mem _ hL)) (fun L hL=>fl L (List.mem_cons_of_mem _ hL)) h2 l hl
  exact this Ls fs hL hflat pl
 obtain ⟨f',fd,ps,dvs,ds,FF,hm',_,hb',hvd,hrd⟩:=(F _ _ (by rw [List.length_zip,List.length_map,hfl];exact Nat.min_self _) hBm lams).ex
 rw [hm] at hm';cases hm'
 have edv:dvs=[]:=(hrd (fun _=>none) (fun _=>none)).inv_nil
 subst edv
 cases hvd
 have FF':fF X.prog X.w X.K X.mg (fP s1.heap Hh) kP j f fd ps (cL D.K (sp (fs.zip (Ls.map fun L=>o7 L τ)))):=by rw [h.prog,h.w,h.K,h.mg];exact FF
 have hsp:cL D.K (sp (fs.zip (Ls.map fun L=>o7 L τ))) vs (jL q H1) (fun v H2=>(∀ b,eG q (H1 b)->H2 b=none)->Q v (nG q H1 H2)) E0:=by
  refine ⟨ws,iX M1 P,_,rmH,rus.stq sq,q1 hno,fun u v M2 H2 cJ rm2 ru2 ⟨hn2,q2⟩ hcn=>?_⟩
  obtain ⟨S1,S2,rm3⟩:=MD rm1 hMP cJ rm2 hcn (fun b z=>absurd z (hn2 b))
  exact cont u v _ _ (st1.trans S1) rm3 (ru2.stq S2) q2
 have hl:us.length=ps.length:=by rw [<- rv.length];exact FF'.len _ _ _ _ hsp
 have hbK:Binds X.K fd ps []:=by rw [h.K];exact hb'
 have hbs:=hbK s1 us I1.kIn (by rw [List.append_nil];exact hl)
 rw [List.append_nil] at hbs
 refine wpAny_call (codeAny_mono (FF'.run X.A X.stack s1 (jL q H1) ⟨us,[]⟩ us vs _ E0 (h.room.mono hj) e0 hbs rv hsp) fun r s' hq=>?_)
 cases r with
 | error e=>exact hq.elim
 | ok fl =>
  cases fl with
  | next=>exact False.elim hq
  | brk=>exact False.elim hq
  | cont=>exact False.elim hq
  | ret u =>
   obtain ⟨v,H2,os,bare,un,hok2,rvu,q2⟩:=hq
   have cold:∀ b,eG q (H1 b)->∃ o,s1.heap.get? b=some o:=fun b ⟨oc,_,_,e,_⟩=>⟨oc,(I1.hok b _ e).1⟩
   have hcn:∀ b,eG q (H1 b)->H2 b=none:=fun b hb=>by
    obtain ⟨o,ho⟩:=cold b hb
    exact un.free b o ho (qF hb) (by simp)
   have nc:∀ {b o},H1 b=some o->(∀ oc,o≠.frz oc (.own 0))->¬ eG q (H1 b):=fun {b o} e n z=>by rw [e] at z;obtain ⟨oc,z⟩:=dM z;exact n oc z
   have un':Un (iU X.stack) [] H1 (nG q H1 H2) s1.heap s'.heap:=by
    refine ⟨fun b o e n a1 a2=>un.keep b o e (hid0 b n) a1 a2,fun b o e n a1 a2=>un.slot b o e (hid0 b n) a1 a2,fun b o e n a=>?_,fun b o e a=>un.there b o e a,fun b xs e=>?_,fun b o u e=>?_,fun b qs e=>?_⟩
    ·rw [cO (by rw [n];exact xT)];exact un.free b o e (hid0 b n) a
    ·have hc:=nc e (by simp)
     rw [cO hc];exact un.tups b xs (by rw [cN hc];exact e)
    ·by_cases hc:eG q (H1 b)
     ·rw [t5 hc];exact e
     ·rw [cO hc];exact un.frzs b o u (by rw [cN hc];exact e)
    ·have hc:=nc e (by simp)
     rw [cO hc];exact un.tbls b qs (by rw [cN hc];exact e)
   have hok':fR X.prog X.w (nG q H1 H2) s'.heap:=by
    intro b o e
    by_cases hc:eG q (H1 b)
    ·rw [t5 hc] at e
     obtain ⟨oc,vs',t',e',_⟩:=hc
     rw [e] at e';cases e'
     have hb:=(I1.hok b _ e).1
     have hk':=un.keep b oc hb (qF ⟨oc,vs',t',e,by assumption⟩) (fun hb=>by rw [I1.stkFree b hb] at e;cases e) (by simp)
     exact ⟨hk',_,hk'⟩
    ·rw [cO hc] at e
     refine (hok2 b o e).stay (fun _ _ _ z=>z) (fun a ea=>?_) (fun a xs ea=>?_)
     ·rw [cO (fun z=>by rw [hcn a z] at ea;cases ea)];exact ea
     ·rw [cO (fun z=>by rw [hcn a z] at ea;cases ea)];exact ea
   have I2:L2.Inv X pins σ (nG q H1 H2) s':=Inv.call' (ch:=[]) I1 os un' hok' bare (fun b z=>absurd z (by simp))
   exact ⟨v,_,I2,rvu,q2 hcn⟩
def Sn (P:Addr) (q:Str) (L:tL) (sp:Addr->bG->bG):SU->List U->List Addr->aF->UK->Prop:=fun τ us fs M1 Q=>match fs with
 | [fl]=>M1 P=some (.tbl q)/\(∀ u,some u∈oR L τ->sN u)/\((∀ b,iX M1 P b≠some (.tbl q))->sp fl (o7 L τ) us (iX M1 P) fun u M2=>(∀ b,M2 b≠some (.tbl q))/\Q u (mup M2 P (.tbl q)))
 | _=>False
def Mr (P:Addr) (q:Str) (L L':tL) (sp:Addr->bG->Addr->bG->bG):SU->List U->List Addr->aF->UK->Prop:=fun τ us fs M1 Q=>match fs with
 | [fl,fl']=>M1 P=some (.tbl q)/\(∀ u,some u∈oR L τ->sN u)/\(∀ u,some u∈oR L' τ->sN u)/\((∀ b,iX M1 P b≠some (.tbl q))->sp fl (o7 L τ) fl' (o7 L' τ) us (iX M1 P) fun u M2=>(∀ b,M2 b≠some (.tbl q))/\Q u (mup M2 P (.tbl q)))
 | _=>False
def Sf (sp:Addr->bG->Addr->bG->bG):List (Addr × bG)->bG
 | [(fl,s),(fl',s')]=>sp fl s fl' s'
 | _=>fun _ _ _=>False
theorem HS {D:Dat} {x:Str} {p pos:Pos} {e:Expr} {es:List Expr} {f P:Addr} {q:Str} {j:Nat} (k:Nat) (L L':tL) {sp:Addr->bG->Addr->bG->bG} {t:tN} (hm:D.mg x=some (.ref f)) (hk:PySem.W.keepIn D.K (.ref f)=true)
  (F:∀ (base:Heap) (fl:Addr) (s:bG) (fl':Addr) (s':bG),gJ base D.mg->eY D.prog D.w D.K D.mg base (k + 1) fl s->eY D.prog D.w D.K D.mg base (k + 1) fl' s'->Callee D.prog D.w D.K D.mg base j x (sp fl s fl' s') []) (hB:gJ D.base D.mg) (hL:yN D k L) (hL':yN D k L') (ha:uL D q (e :: es) [L.lam,L'.lam] t)
  (hj:j<=D.k:=by first | exact Nat.le_refl _ | (dsimp only;omega) | omega) (hfn:D.fn=true:=by rfl) (hg:D.sc.names.lookup x=some .globalImplicit:=by rfl) (hdb:(x == ("__debug__":Str))=false:=by decide)
  (he:∀ env,starEach (e :: es) env=(false,eval e env) :: starEach es env:=by intro _;rfl) (hpl:∀ env,(backTo pos (starEach es env)).any (·.1)=false:=by intro _;rfl):aY D (.Call (.Name x p) (e :: es) [] pos) (rM (Mr P q L L' sp) t):=by
 refine KQ (Ls:=[L,L']) (sp:=Sf sp) (P:=P) (q:=q) (j:=j) (k:=k) hm hk (fun base fs hl hb hf=>?_) (fun τ us fs M1 Q hl h=>?_) hB (fun L'' h'=>?_) ha hj hfn hg hdb he hpl
 ·match fs,hl with
  | [(fl,s),(fl',s')],_=>exact F base fl s fl' s' hb (hf (fl,s) List.mem_cons_self) (hf (fl',s') (List.mem_cons_of_mem _ List.mem_cons_self))
 ·match fs,hl,h with
  | [fl,fl'],_,h =>
   obtain ⟨h1,h2,h2',h3⟩:=h
   refine ⟨h1,fun L'' h'=>?_,h3⟩
   rcases List.mem_cons.mp h' with z | z
   ·subst z;exact h2
   ·cases List.mem_singleton.mp z;exact h2'
 ·rcases List.mem_cons.mp h' with z | z
  ·subst z;exact hL
  ·cases List.mem_singleton.mp z;exact hL'
end U2
namespace U2
open PySem PySem.Spec PyProof.Rows L2
section
variable {P:Program} {w:World} {K:PySem.W.Frag} {mg:Str->Option Value} {base:Heap}
theorem FG {x:Str} {st:Stmt} {f c0:Addr} {fd:FuncData} {N ps:List Str} {k:Nat} {sp:bG} {t:US} (F:cK K x x st f fd) (hfd:fd.code=.ref c0) (hm:mg x=some (.ref f)) (S:bA N ps (aH st))
  (bind:∀ (kV doc pm:Value) (an:Option Addr) (cdv ct:Value) (us:List Value),us.length=ps.length->bindArgs (PySem.W.fnOf x x (aZ st) (aT st) (aH st) .none kV doc pm an cdv ct) ⟨us,[]⟩=pure (ps.zip us))
  (len:∀ us M Q,sp us M Q->us.length=ps.length)
  (h:mS ⟨P,w,K,mg,base,N,aH st,k,true,.ref c0,x++".<locals>."⟩ (aT st) t)
  (q:∀ us M Q,sp us M Q->t { nx:=fun _ M'=>jF Q .non M',rt:=jF Q } (eS N us) M):Callee P w K mg base (k + 1) x sp []:=by
 obtain ⟨t0,h1,h2⟩:=h
 have hb:=F.binds bind
 have kp:=F.kp
 obtain ⟨oc,od,kV,doc,pm,an,cdv,ct,osl,rfl,lk,hcd⟩:=F.ex
 have hfd':cdv=.ref c0:=hfd
 subst hfd'
 refine ⟨f,_,ps,[],[],L8 lk hcd S (fun vs H Q E ⟨us,M,Q',_,r,hs,_⟩=>by rw [<- r.length];exact len us M Q' hs) (fun A outer s H vs Q E hr ⟨us,M,Q',rm,r,hs,c⟩=>?_),hm,kp,hb,.nil,fun H M=>.nil⟩
 refine ⟨t0,qK.nox (h1 _ ⟨rfl,rfl,rfl,rfl,rfl,rfl,rfl,hr,rfl,rfl,fun _ _=>rfl,fun _=>⟨rfl,rfl⟩,fun _=>⟨rfl,rfl,rfl⟩⟩),?_⟩
 refine h2 _ (eS N us) H M _ (qH r) rm (q us M Q' hs) _ ⟨fun σ τ H1 M1 s1 rm1 rs1 q1=>?_,fun u v H1 M1 s1 rm1 ru q1=>jF.ok c s1 rm1 ru q1,fun _ _ _ _ _ _ _ z=>z.elim,fun _ _ _ _ _ _ _ z=>z.elim⟩
 exact jF.ok c s1 rm1 lN q1
end
def E7 (ts:List Addr) (H:Hp):Prop:=∀ b,H b=none\/(∃ o xs,H b=some (.frz o (.lst xs)))\/(b∈ts/\H b=some (.tbl #[]))
theorem Hk {P:Program} {w:World} {K:PySem.W.Frag} {mg mb:Str->Option Value} {k:Nat} {fa a:Addr} {fd:FuncData} {x:Str} {sp:Sp} {s₁:Shared} {vs:List Value} {ns:List Int} {ts:List Addr}
  (KX:K.In s₁.heap) (hns:s₁.heap.Ns mainGlobals mg) (hb:s₁.heap.Ns builtinsNs mb) (hbb:∀ x:Str,x≠"__name__"->mb x=bootBuiltins x) (hlim:s₁.heap.NoLimit) (hg:s₁.gens=#[])
  (hB:gJ s₁.heap mg) (hT:∀ p∈ts,s₁.heap.get? p=some (PySem.W.tabObj #[])/\K.lookup p=none/\isCodeTable s₁.heap p)
  (ha:s₁.heap.get? a=some { cls:=.type "list",data:=.seq vs.toArray }) (hi:IntsAre vs ns) (hl:ns.length<=sizeLine) (hr:dC k callerA)
  (F:∀ base:Heap,K.In base->base.Ns mainGlobals mg->gJ base mg->fF P w K mg base kP k fa fd [x] sp) (hbind:∀ (s:Shared) (u:Value),BindsTo s fd ⟨[u],[]⟩ [(x,u)])
  (hsp:∀ H:Hp,E7 ts H->eC K H a (ns.map V.int)->(∀ p∈ts,H p=some (.tbl #[]))->sp [.ref a] H (fun v _=>v=.bl true) fun _ _ _=>False) :
  codeAny (model P w) callerA (.call (.ref fa) ⟨[.ref a],[]⟩) (fun r s'=>r=.ok (.ret (.bool true))/\OldK s₁.heap s'.heap/\s'.os=s₁.os/\AllBare s'.gens) s₁:=by
 have rv:=Bf hi
 have lenV:=hi.length
 have haT:a ∉ ts:=fun z=>by
  have:=(hT a z).1
  rw [ha] at this;cases this
 have core:∀ H:Hp,E7 ts H->eC K H a (ns.map V.int)->(∀ p∈ts,H p=some (.tbl #[]))->fR P w H s₁.heap->(∀ b,H b≠none->b=a\/b∈ts)->(H a≠none->K.lookup a=none) ->
   codeAny (model P w) callerA (.call (.ref fa) ⟨[.ref a],[]⟩) (fun r s'=>r=.ok (.ret (.bool true))/\OldK s₁.heap s'.heap/\s'.os=s₁.os/\AllBare s'.gens) s₁:=by
  intro H hO hS hTb hok hA hK
  have base_of:∀ {b:Addr} {o:Obj},s₁.heap.get? b=some o->H b=none->(fP s₁.heap H).get? b=some o:=fun e n=>pP e n
  have noD:∀ {b:Addr} {o:Obj},s₁.heap.get? b=some o->(∀ xs n,o.data≠.seq xs n)->(∀ vs,o.data≠.fields vs)->H b=none:=fun {b o} e d1 d2=>by
   cases q:H b with
   | none=>rfl
   | some u =>
    rcases hA b (by rw [q];simp) with e' | e'
    ·subst e'
     rw [ha] at e;cases e
     exact absurd rfl (d1 _ _)
    ·rw [(hT b e').1] at e;cases e
     exact absurd rfl (d2 _)
  have noA:∀ {b:Addr} {o:Obj} {es:Array DictEntry} {ep:Nat},s₁.heap.get? b=some o->o.data=.dict es ep->H b=none:=fun {b o es ep} e d=>noD e (fun xs n z=>by rw [d] at z;cases z) (fun vs z=>by rw [d] at z;cases z)
  have nsK:∀ {b:Addr} {m:Str->Option Value},s₁.heap.Ns b m->(fP s₁.heap H).Ns b m:=fun {b m} ⟨o,es,ep,e,d,r⟩=>⟨o,es,ep,base_of e (noA e d),d,r⟩
  have hKb:K.In (fP s₁.heap H):=fun b o e=>base_of (KX b o e) (by
   cases q:H b with
   | none=>rfl
   | some u =>
    rcases hA b (by rw [q];simp) with e' | e'
    ·subst e'
     rw [hK (by rw [q];simp)] at e;cases e
    ·rw [(hT b e').2.1] at e;cases e)
  have hBb:gJ (fP s₁.heap H) mg:=by
   obtain ⟨bm,o,b1,b2,b3,b4,b5,b6,b7⟩:=hB
   exact ⟨bm,o,b1,b2,b3,base_of b4 (noD b4 (fun xs n z=>by rw [b7] at z;cases z) (fun vs z=>by rw [b7] at z;cases z)),b5,b6,b7⟩
  have hM:Mod K mg (fP s₁.heap H):=⟨hKb,nsK hns,⟨mb,nsK hb,hbb⟩,let ⟨mc,h1,h2⟩:=hlim;⟨mc,nsK h1,h2⟩⟩
  have e0:uS P w K mg (fP s₁.heap H) callerA [] s₁ H:=⟨rfl,hM,fun b o e=>AA e,Nat.le_of_eq (AU _ _),trivial,fun b hb=>absurd (show b∈([]:List Addr) from hb) (by simp),hok,.of_eq hg⟩
  refine codeAny_mono ((F _ hKb (nsK hns) hBb).run callerA [] s₁ H ⟨[.ref a],[]⟩ [.ref a] [.ref a] _ _ hr e0 (hbind s₁ (.ref a)) (.cons rfl .nil) (hsp H hO hS hTb)) fun r s' h=>?_
  cases r with
  | error e=>exact h.elim
  | ok fl =>
   cases fl with
   | next=>exact False.elim h
   | brk=>exact False.elim h
   | cont=>exact False.elim h
   | ret u =>
    obtain ⟨v,H',os,bare,un,hok',r',q⟩:=h
    have q':v=.bl true:=q
    subst q'
    obtain rfl:u=Value.bool true:=r'
    have kept:∀ b o,s₁.heap.get? b=some o->b ∉ ts->s'.heap.get? b=some o:=fun b o e hbt=>by
     cases q:H b with
     | none=>exact un.keep b o e q (by intro z;exact absurd (show b∈([]:List Addr) from z) (by simp)) (by simp)
     | some u =>
      rcases hO b with z | ⟨ob,xs,z⟩ | ⟨z,_⟩
      ·rw [q] at z;cases z
      ·have z2:=un.frzs b ob _ z
       obtain ⟨e1,_⟩:=hok b _ z
       obtain ⟨e2,_⟩:=hok' b _ z2
       rw [e] at e1;cases e1
       exact e2
      ·exact absurd z hbt
    refine ⟨rfl,⟨fun b o e=>?_,fun b o e=>?_⟩,os,bare⟩
    ·by_cases hbt:b∈ts
     ·obtain ⟨h1,_,h3⟩:=hT b hbt
      rw [h1] at e;cases e
      obtain ⟨more,hm⟩:=un.tbls b _ (hTb b hbt)
      have:=hok' b _ hm
      exact .inr (.inl ⟨h3,rfl,#[],more,rfl,this⟩)
     ·exact .inl (kept b o e hbt)
    ·by_cases hbt:b∈ts
     ·obtain ⟨more,hm⟩:=un.tbls b _ (hTb b hbt)
      exact ⟨_,hok' b _ hm⟩
     ·exact ⟨o,kept b o e hbt⟩
 have tOk:∀ (H:Hp) b,b∈ts->dI P w H s₁.heap b (.tbl #[]):=fun H b hb=>(hT b hb).1
 open Classical in
 cases hk:K.lookup a with
 | some o =>
  have e:=KX a o hk
  rw [ha] at e
  cases e
  refine core (fun b=>if b∈ts then some (.tbl #[]) else none) (fun b=>?_) (.inr ⟨_,vs.toArray,_,hk,rfl,rfl,rfl,by rw [List.size_toArray,lenV];exact hl,by simpa using rv⟩) (fun p hp=>if_pos hp) (fun b u z=>?_) (fun b z=>?_) (fun z=>absurd (if_neg haT) z)
  ·by_cases hb:b∈ts
   ·exact .inr (.inr ⟨hb,if_pos hb⟩)
   ·exact .inl (if_neg hb)
  ·by_cases hb:b∈ts
   ·have z':=(if_pos hb).symm.trans z
    cases z'
    exact tOk _ b hb
   ·have z':=(if_neg hb).symm.trans z
    cases z'
  ·by_cases hb:b∈ts
   ·exact .inr hb
   ·exact absurd (if_neg hb) z
 | none =>
  refine core (fun b=>if b=a then some (.frz { cls:=.type "list",data:=.seq vs.toArray } (.lst (ns.map V.int))) else if b∈ts then some (.tbl #[]) else none) (fun b=>?_) (.inl (.inr ⟨{ cls:=.type "list",data:=.seq vs.toArray },if_pos rfl⟩)) (fun p hp=>?_) (fun b u z=>?_) (fun b z=>?_) fun _=>hk
  ·by_cases hb:b=a
   ·exact .inr (.inl ⟨_,_,if_pos hb⟩)
   ·by_cases hbt:b∈ts
    ·exact .inr (.inr ⟨hbt,(if_neg hb).trans (if_pos hbt)⟩)
    ·exact .inl ((if_neg hb).trans (if_neg hbt))
  ·exact (if_neg (fun z:p=a=>haT (z ▸ hp))).trans (if_pos hp)
  ·by_cases hb:b=a
   ·have z':=(if_pos hb).symm.trans z
    cases z'
    subst hb
    exact ⟨ha,by rw [List.length_map];exact hl,vs,_,rv,ha⟩
   ·by_cases hbt:b∈ts
    ·have z':=((if_neg hb).trans (if_pos hbt)).symm.trans z
     cases z'
     exact tOk _ b hbt
    ·have z':=((if_neg hb).trans (if_neg hbt)).symm.trans z
     cases z'
  ·by_cases hb:b=a
   ·exact .inl hb
   ·by_cases hbt:b∈ts
    ·exact .inr hbt
    ·exact absurd ((if_neg hb).trans (if_neg hbt)) z
theorem JS {l:PySem.W.OpenLaw} {n k:Nat} {q:Program} {loose:List Str} {XP:(Str->Option Value)->Heap->Prop} {YP:World->Heap->Prop} {d:DefRec} {K:Params->PySem.W.Frag} {sp:World->Sp} {x:Str} {ts:List Addr}
  (hn:l.most=some n) (hn2:n<=sizeLine) (hdf:d.params.defaults=[]) (hr:dC k callerA)
  (hY:∀ (w:World) (h:Heap),YP w h->(K w.params).In h/\∀ P∈ts,h.get? P=some (PySem.W.tabObj #[]))
  (hTK:∀ (w:World),∀ P∈ts,(K w.params).lookup P=none/\∃ c,PySem.W.codeHdIn (K w.params) c P=true)
  (F:∀ (w:World) (mg:Str->Option Value) (fa:Addr) (h:Heap),(K w.params).In h->h.Ns mainGlobals mg->mg d.name=some (.ref fa) ->
   ∃ fd:FuncData,(∀ (s:Shared) (u:Value),BindsTo s fd ⟨[u],[]⟩ [(x,u)]) /\
    ∀ base:Heap,(K w.params).In base->base.Ns mainGlobals mg->gJ base mg->fF l.prog w (K w.params) mg base kP k fa fd [x] (sp w))
  (hsp:∀ (w:World) (H:Hp) (a:Addr) (ns:List Int),ns.length<=n->E7 ts H->eC (K w.params) H a (ns.map V.int)->(∀ p∈ts,H p=some (.tbl #[]))->sp w [.ref a] H (fun v _=>v=.bl true) fun _ _ _=>False) :
  PySem.W.WalkO q loose XP YP l.row.toRowW d [] (fun f vs=>PySem.call f vs):=by
 refine Att.attach_call hn hdf fun w s₀ s₁ mg mb fa o pm cd doc a vs ns G Y ho hd hcd hmg hobj hints hlen hg=>?_
 obtain ⟨KX,TX⟩:=hY w _ Y
 obtain ⟨fd,hb,hF⟩:=F w mg fa _ KX G.T.g hmg
 have hB:gJ s₁.heap mg:=by
  obtain ⟨bm,ob,b1,b2,b3,b4,b5,b6⟩:=G.T.bmain
  refine ⟨bm,ob,b1,b2,fun z=>?_,b3,b4,b5,b6⟩
  obtain ⟨o,es,ep,e,hd,_⟩:=G.T.g
  rw [z,e] at b3;cases b3;rw [hd] at b6;cases b6
 exact Hk KX G.T.g G.T.b G.T.builtins G.T.nolimit hg hB (fun p hp=>⟨TX p hp,(hTK w p hp).1,let ⟨c,hc⟩:=(hTK w p hp).2;((PySem.W.codeHd_of_K KX hc).tab (TX p hp)).isCodeTable⟩) hobj hints (Nat.le_trans hlen hn2) hr hF hb (fun H hO hS hT=>hsp w H a ns hlen hO hS hT)
end U2
namespace U2
open PySem PySem.Spec PyProof.Rows L2
section
variable {D:Dat} {x:Str} {p pos:Pos} {e:Expr} {es:List Expr} {f P:Addr} {q:Str} {j:Nat}
theorem NG (k:Nat) (N ps:List Str) (ix:List Nat) (N' ps':List Str) (ix':List Nat) {params params':Arguments} {body body':Expr} {scope scope':Scope} {te te':UE} {sp:Addr->bG->Addr->bG->bG} {t:tN} (hm:D.mg x=some (.ref f)) (hk:PySem.W.keepIn D.K (.ref f)=true)
  (F:∀ (base:Heap) (fl:Addr) (s:bG) (fl':Addr) (s':bG),gJ base D.mg->eY D.prog D.w D.K D.mg base (k + 1) fl s->eY D.prog D.w D.K D.mg base (k + 1) fl' s'->Callee D.prog D.w D.K D.mg base j x (sp fl s fl' s') []) (hB:gJ D.base D.mg) (ha:uL D q (e :: es) [⟨params,body,scope⟩,⟨params',body',scope'⟩] t) (hb:∀ base,gJ base D.mg->aY (CI D base k N scope) body te) (hb':∀ base,gJ base D.mg->aY (CI D base k N' scope') body' te')
  (s1:scope.kind=.function:=by rfl) (s2:scope.isCoroutine=false:=by rfl) (s3:scope.isGenerator=false:=by rfl) (s4:N.Nodup:=by decide +kernel) (s5:N.take ps.length=ps:=by rfl) (s6:∀ x∈ps,scope.names.lookup x=some .local:=by decide +kernel) (s7:∀ y∈scope.names,y.2≠.cell:=by decide +kernel) (s8:∀ x∈N.drop ps.length,scope.names.lookup x=some .free:=by decide +kernel)
  (s9:N.length=ps.length + ix.length:=by rfl) (s10:ix.map (fun i=>D.N[i]?)=(N.drop ps.length).map some:=by rfl) (s11:∀ y∈scope.names,y.2=.free->D.sc.names.lookup y.1=some .cell\/D.sc.names.lookup y.1=some .free:=by first | decide +kernel | (dsimp only;decide +kernel)) (s12:∀ x∈N.drop ps.length,D.sc.names.lookup x=some .cell\/D.sc.names.lookup x=some .free:=by first | decide +kernel | (dsimp only;decide +kernel))
  (s13:∀ (q:Str) (cl:List (Str × Addr)) (pm cd ct:Value) (us:List Value),us.length=ps.length->bindArgs (PySem.W.kla_fn "<lambda>" q params body scope cl pm cd ct) ⟨us,[]⟩=pure (ps.zip us):=by exact fun _ _ _ _ _ us hl=>(match us,hl with | [_],_=>rfl))
  (r1:scope'.kind=.function:=by rfl) (r2:scope'.isCoroutine=false:=by rfl) (r3:scope'.isGenerator=false:=by rfl) (r4:N'.Nodup:=by decide +kernel) (r5:N'.take ps'.length=ps':=by rfl) (r6:∀ x∈ps',scope'.names.lookup x=some .local:=by decide +kernel) (r7:∀ y∈scope'.names,y.2≠.cell:=by decide +kernel) (r8:∀ x∈N'.drop ps'.length,scope'.names.lookup x=some .free:=by decide +kernel)
  (r9:N'.length=ps'.length + ix'.length:=by rfl) (r10:ix'.map (fun i=>D.N[i]?)=(N'.drop ps'.length).map some:=by rfl) (r11:∀ y∈scope'.names,y.2=.free->D.sc.names.lookup y.1=some .cell\/D.sc.names.lookup y.1=some .free:=by first | decide +kernel | (dsimp only;decide +kernel)) (r12:∀ x∈N'.drop ps'.length,D.sc.names.lookup x=some .cell\/D.sc.names.lookup x=some .free:=by first | decide +kernel | (dsimp only;decide +kernel))
  (r13:∀ (q:Str) (cl:List (Str × Addr)) (pm cd ct:Value) (us:List Value),us.length=ps'.length->bindArgs (PySem.W.kla_fn "<lambda>" q params' body' scope' cl pm cd ct) ⟨us,[]⟩=pure (ps'.zip us):=by exact fun _ _ _ _ _ us hl=>(match us,hl with | [_,_],_=>rfl))
  (hj:j<=D.k:=by first | exact Nat.le_refl _ | (dsimp only;omega) | omega) (hfn:D.fn=true:=by rfl) (hg:D.sc.names.lookup x=some .globalImplicit:=by rfl) (hdb:(x == ("__debug__":Str))=false:=by decide)
  (he:∀ env,starEach (e :: es) env=(false,eval e env) :: starEach es env:=by intro _;rfl) (hpl:∀ env,(backTo pos (starEach es env)).any (·.1)=false:=by intro _;rfl):aY D (.Call (.Name x p) (e :: es) [] pos) (rM (Mr P q ⟨⟨params,body,scope⟩,N,ps,ix,te⟩ ⟨⟨params',body',scope'⟩,N',ps',ix',te'⟩ sp) t) :=
 HS k ⟨⟨params,body,scope⟩,N,ps,ix,te⟩ ⟨⟨params',body',scope'⟩,N',ps',ix',te'⟩ hm hk F hB ⟨⟨s1,s2,s3,s4,s5,s6,s7,s8⟩,s9,s10,s11,s12,hb,s13⟩ ⟨⟨r1,r2,r3,r4,r5,r6,r7,r8⟩,r9,r10,r11,r12,hb',r13⟩ ha hj hfn hg hdb he hpl
end
end U2
namespace U2
open PySem PySem.Spec PyProof.Rows L2
def mT (ts:List (Addr × Str)):aF:=fun b=>(ts.lookup b).map MO.tbl
theorem oP {b:Addr} {q:Str}:∀ {ts:List (Addr × Str)},ts.lookup b=some q->(b,q)∈ts
 | [],h=>by cases h
 | (c,r) :: ts,h=>by
  rw [List.lookup_cons] at h
  by_cases e:b=c
  ·subst e
   rw [beq_self_eq_true] at h
   cases h
   exact List.mem_cons_self
  ·rw [show (b == c)=false from beq_eq_false_iff_ne.mpr e] at h
   exact List.mem_cons_of_mem _ (oP h)
theorem MB {K:PySem.W.Frag} {H:Hp} {ts:List (Addr × Str)} (hu:∀ p∈ts,∀ p'∈ts,p.2=p'.2->p.1=p'.1) (hT:∀ b∈ts.map Prod.fst,H b=some (.tbl #[])):RelM K H (mT ts):=by
 intro b mo h
 unfold mT at h
 cases e:ts.lookup b with
 | none=>rw [e] at h;cases h
 | some q =>
  rw [e] at h
  cases h
  refine ⟨fun b' h'=>?_,#[],hT b (List.mem_map.mpr ⟨_,oP e,rfl⟩),trivial,fun pos c hc=>by cases hc⟩
  unfold mT at h'
  cases e':ts.lookup b' with
  | none=>rw [e'] at h';cases h'
  | some q' =>
   rw [e'] at h'
   cases h'
   exact hu _ (oP e') _ (oP e) rfl
theorem A9 {K:PySem.W.Frag} {H:Hp} {M:aF}:∀ ns:List Int,aJ K H M (ns.map U.int) (ns.map V.int)
 | []=>.nil
 | _ :: r=>.cons dE (A9 r)
theorem DZ {K:PySem.W.Frag} {H:Hp} {ts:List (Addr × Str)} {a:Addr} {ns:List Int} (hT:∀ b∈ts.map Prod.fst,H b=some (.tbl #[])) (hS:eC K H a (ns.map V.int)):aJ K H (mT ts) [.lst (ns.map .int)] [.ref a]:=by
 refine .cons ?_ .nil
 simp only [aM]
 refine ⟨a,_,rfl,?_,A9 ns⟩
 rcases hS with h | h
 ·refine .inl ⟨?_,h⟩
  unfold mT
  cases e:ts.lookup a with
  | none=>rfl
  | some q =>
   have:=hT a (List.mem_map.mpr ⟨_,oP e,rfl⟩)
   rcases h with h | ⟨o,h⟩ <;> rw [this] at h <;> cases h
 ·exact .inr h
theorem Pe {K:PySem.W.Frag} {H:Hp} {a:Addr} {ns:List Int} {E:XK} {ts:List (Addr × Str)} {sp:bG} (hS:eC K H a (ns.map V.int)) (hT:∀ b∈ts.map Prod.fst,H b=some (.tbl #[])) (hu:∀ p∈ts,∀ p'∈ts,p.2=p'.2->p.1=p'.1)
  (h:sp [.lst (ns.map .int)] (mT ts) fun u _=>u=.bl true):cL K sp [.ref a] H (fun v _=>v=.bl true) E :=
 ⟨[.lst (ns.map .int)],mT ts,fun u _=>u=.bl true,MB hu hT,DZ hT hS,h,fun u v M1 H1 _ _ ru q=>by subst q;exact ru.bl⟩
end U2
namespace U2
open PySem PySem.Spec PyProof.Rows L2
section
variable {D:Dat} {x:Str} {p pos:Pos} {e:Expr} {es:List Expr} {f P:Addr} {q:Str} {j:Nat}
end
end U2
namespace L2
open PySem PySem.Spec PyProof.Rows PySem.F
def vC (h:Heap) (d:Addr) (es:Array DictEntry) (ep:Nat):Prop:=∃ o,h.get? d=some o/\o.ExactDict/\o.data=.dict es ep
theorem vC.ty {s:Shared} {d:Addr} {es:Array DictEntry} {ep:Nat} (r:vC s.heap d es ep):s.TypeIs (.ref d) "dict":=let ⟨o,e,c,_⟩:=r;⟨o,e,c.1⟩
section
variable {prog:Program} {w:World} {A:Around} {E:Value->Shared->Prop} {s:Shared} {d it vw:Addr} {es:Array DictEntry} {ep i:Nat} {e:DictEntry}
theorem JF {Q:Value->Shared->Prop} (lo:(d == sysModules)=false) (r:vC s.heap d es ep)
  (q:Q (.ref s.heap.objs.size) { s with heap:=s.heap.push { cls:=.type "dict_keyiterator",data:=.fields #[.ref d,.int 0 0,.int es.size 0,.int ep 0] } }):wpAny (model prog w) A (pyIter (.ref d)) Q E s:=by
 obtain ⟨o,g,c,dd⟩:=id r
 refine wpAny_pyIter_slot r.ty slot_dict_iter (wpAny_call_entry slot_dict_iter r.ty entry_dict_iter ?_ (args_dict_iter_1 _))
 unfold Builtin.«dict.__iter__»;refine wpAny_bind ?_
 unfold Builtin.Dict.dictSlotNone;refine wpAny_bind (wpAny_notOrdered_dict r.ty ?_)
 show wpAny (model prog w) _ (pure (Value.ref d)) _ _ s;refine wpAny_pure ?_
 show wpAny (model prog w) _ (Builtin.Dict.showsAll d >>= _) _ _ s;unfold Builtin.Dict.showsAll
 rw [if_neg (by rw [lo];decide)];refine wpAny_bind (wpAny_pure (wpAny_bind (wpAny_dictEntries g dd (wpAny_bind (wpAny_dictEpoch g dd ?_)))))
 refine wpAny_bind (wpAny_newObj_type (wpAny_pure ⟨_,rfl,"dict_keyiterator",_,⟨_,Heap.get?_push_size _ rfl,rfl⟩,slot_dict_keyiterator_next.lookup,?_⟩))
 simpa [rawInt] using q
theorem KO {Q:Option Value->Shared->Prop} (hit:s.heap.IsKeyIter it d i es.size ep) (r:vC s.heap d es ep) (hx:es[i]?=some e)
  (q:∀ h',h'.IsKeyIter it d (i + 1) es.size ep->Heap.SameBut it s.heap h'->Q (some e.key) { s with heap:=h' }):wpAny (model prog w) A (pyNext (.ref it)) Q E s:=by
 obtain ⟨oi,gi,ci,di⟩:=id hit
 obtain ⟨o,g,c,dd⟩:=id r
 have T:=hit.typeIs
 have lt:i < es.size:=(Array.getElem?_eq_some_iff.mp hx).1
 unfold pyNext
 refine wpAny_bind (wpAny_attempt (wpAny_callSpecial?_slot (name:=Str.ofString "__next__") T slot_dict_keyiterator_next (wpAny_call_entry slot_dict_keyiterator_next T entry_dict_keyiterator_next ?_ (args_dict_keyiterator_next_1 _))))
 refine wpAny_bind (wpAny_pure (wpAny_bind (wpAny_bind ?_)))
 first | refine wpAny_bind (wpAny_typeNameOfWhole_keyiter T (wpAny_pure (wpAny_bind (wpAny_fieldsOf gi di ?_)))) | refine wpAny_bind (wpAny_typeNameOf_keyiter T (wpAny_pure (wpAny_bind (wpAny_fieldsOf gi di ?_))))
 simp only [show Builtin.Dict_items.ownsTuple "dict_keyiterator"=false by decide,Bool.false_eq_true,if_false]
 show wpAny (model prog w) _ (if (Value.ref d == Value.none)=true then _ else _) _ _ s
 rw [if_neg (show ¬ ((Value.ref d == Value.none)=true) from Bool.false_ne_true)];refine wpAny_bind (wpAny_pure (wpAny_bind (wpAny_dictEntries g dd ?_)))
 rw [if_neg (by simp)];refine wpAny_bind (wpAny_pure (wpAny_bind (wpAny_dictEpoch g dd ?_)));rw [if_neg (by simp)];refine wpAny_pure ?_
 simp only [show ¬ ((i:Int) < 0) by omega,if_false,Int.toNat_natCast,hx];refine wpAny_bind ?_
 first | refine wpAny_bind (wpAny_typeNameOfWhole_keyiter T (wpAny_pure (wpAny_bind (wpAny_isOneOf_keyiter T ?_)))) | refine wpAny_bind (wpAny_typeNameOf_keyiter T (wpAny_pure (wpAny_bind (wpAny_isOneOf_keyiter T ?_))))
 show wpAny (model prog w) _ (setField (.ref it) 1 (rawInt ((i:Int) + 1)) >>= _) _ _ s
 refine wpAny_bind (wpAny_setField gi di (by simp) ?_)
 have hit':(s.heap.update it (Obj.mapFields (·.setIfInBounds 1 (rawInt ((i:Int) + 1))))).IsKeyIter it d (i + 1) es.size ep :=
  ⟨_,Heap.get?_update_self _ gi (Obj.isFreed_of_fields (Obj.data_mapFields di _)),(Obj.cls_mapFields ..).trans ci,by rw [Obj.data_mapFields di];simp [rawInt]⟩
 refine wpAny_bind (wpAny_holding (wpAny_bind (wpAny_isOneOf_keyiter (s:={ s with heap:=s.heap.update it (Obj.mapFields (·.setIfInBounds 1 (rawInt ((i:Int) + 1)))) }) hit'.typeIs ?_)))
 show wpAny (model prog w) _ (pure e.key) _ _ _
 exact wpAny_pure (wpAny_pure ⟨_,rfl,wpAny_pure (q _ hit' (Heap.SameBut.update ..))⟩)
theorem Nk {Q:Option Value->Shared->Prop} (hh:A.handled=none) (hit:s.heap.IsKeyIter it d i es.size ep) (r:vC s.heap d es ep) (hx:es[i]?=none)
  (q:∀ h',Heap.ExtBut it s.heap h'->Q none { s with heap:=h' }):wpAny (model prog w) A (pyNext (.ref it)) Q E s:=by
 obtain ⟨oi,gi,ci,di⟩:=id hit
 obtain ⟨o,g,c,dd⟩:=id r
 have T:=hit.typeIs
 unfold pyNext
 refine wpAny_bind (wpAny_attempt (wpAny_callSpecial?_slot (name:=Str.ofString "__next__") T slot_dict_keyiterator_next (wpAny_call_entry slot_dict_keyiterator_next T entry_dict_keyiterator_next ?_ (args_dict_keyiterator_next_1 _))))
 refine wpAny_bind (wpAny_pure (wpAny_bind (wpAny_bind ?_)))
 first | refine wpAny_bind (wpAny_typeNameOfWhole_keyiter T (wpAny_pure (wpAny_bind (wpAny_fieldsOf gi di ?_)))) | refine wpAny_bind (wpAny_typeNameOf_keyiter T (wpAny_pure (wpAny_bind (wpAny_fieldsOf gi di ?_))))
 simp only [show Builtin.Dict_items.ownsTuple "dict_keyiterator"=false by decide,Bool.false_eq_true,if_false]
 show wpAny (model prog w) _ (if (Value.ref d == Value.none)=true then _ else _) _ _ s
 rw [if_neg (show ¬ ((Value.ref d == Value.none)=true) from Bool.false_ne_true)];refine wpAny_bind (wpAny_pure (wpAny_bind (wpAny_dictEntries g dd ?_)))
 rw [if_neg (by simp)];refine wpAny_bind (wpAny_pure (wpAny_bind (wpAny_dictEpoch g dd ?_)));rw [if_neg (by simp)];refine wpAny_pure ?_
 simp only [show ¬ ((i:Int) < 0) by omega,if_false,Int.toNat_natCast,hx];refine wpAny_bind ?_
 first | refine wpAny_bind (wpAny_typeNameOfWhole_keyiter T (wpAny_pure ?_)) | refine wpAny_bind (wpAny_typeNameOf_keyiter T (wpAny_pure ?_))
 show wpAny (model prog w) _ (setField (.ref it) 0 .none >>= _) _ _ s
 refine wpAny_bind (wpAny_setField gi di (by simp) ?_)
 show wpAny (model prog w) _ (newExc (.type "StopIteration") [] >>= _) _ _ _
 refine wpAny_bind ?_;simp only [newExc,newTuple];refine wpAny_bind (wpAny_newObj_type ?_ (by size_fits))
 refine wpAny_bind (m:=firstArgMember _ _) (wpAny_of_eq (a:=Value.none) (by first | rfl | (simp only [firstArgMember];rfl)) (wpAny_newObj_type ?_ (by size_fits)))
 simp only [raiseNew];refine wpAny_bind (wpAny_handled ?_);rw [show A.in1.handled=none from hh]
 refine wpAny_bind (wpAny_pure (wpAny_throw ?_));refine wpAny_bind (wpAny_isInstance (T:="StopIteration") (b:=true) ⟨_,Heap.get?_push_size _ rfl,rfl⟩ isSubtype_stop ?_)
 exact wpAny_pure (q _ (((Heap.SameBut.update ..).extBut.push _).push _))
end
end L2
namespace L2
open PySem PySem.Spec PyProof.Rows
def wV (o:Obj):Array DictEntry:=match o.data with | .dict es _=>es | _=>#[]
def LL (o:Obj):Nat:=match o.data with | .dict _ ep=>ep | _=>0
def SF:HO->Nat
 | .dK kvs=>kvs.length
 | .dT kvs=>kvs.length
 | _=>0
section
variable {X:Cx} {tg:Expr}
end
end L2
namespace U2
open PySem PySem.Spec PyProof.Rows L2
def keyOf (tk:Bool) (k:List Key):U:=if tk then .tup (k.map kU) else kU (OU k)
def Mf (tk:Bool) (ks:List (List Key)):List U:=ks.map (keyOf tk)
def Sr (tk:Bool) (ks:List (List Key)) (us:List U):List U:=(ks.zip us).map fun p=>.tup [keyOf tk p.1,p.2]
theorem Ry (tk:Bool) (ks:List (List Key)):(Mf tk ks).length=ks.length:=by simp [Mf]
section
variable {K:PySem.W.Frag} {H:Hp} {M:aF}
end
section
variable {D:Dat} {tg e:Expr} {te:UE} {pos p:Pos}
end
end U2
namespace U2
open PySem PySem.Spec PyProof.Rows L2
def Cv (τ:SU) (M:aF) (τ':SU) (M':aF):Prop:=∀ (K:PySem.W.Frag) (H:Hp) (σ:L2.St),RelM K H M->eJ K H M σ τ->aR H M H M'/\RelM K H M'/\eJ K H M' σ τ'
def Dg (t:US):US:=fun D τ M=>t { D with nx:=fun τ1 M1=>∃ τ' M',Cv τ1 M1 τ' M'/\D.nx τ' M' } τ M
theorem Fi {D:Dat} {s:Stmt} {t:US} (h:rO D s t):rO D s (Dg t):=by
 obtain ⟨u,p,q⟩:=h
 refine ⟨u,p,fun σ τ H M D' rs rm h D d=>q σ τ H M _ rs rm h D ⟨fun σ1 τ1 H1 M1 s1 rm1 rs1 h1=>?_,d.rt,d.bk,d.ct⟩⟩
 obtain ⟨τ',M',c,h2⟩:=h1
 obtain ⟨s2,rm2,rs2⟩:=c _ H1 σ1 rm1 rs1
 exact d.nx σ1 τ' H1 M' (s1.trans s2) rm2 rs2 h2
section
variable {K:PySem.W.Frag} {H:Hp} {M1 M':aF}
theorem Em {κ:Type}:∀ {kvs:List (κ × U)} {ws:List (κ × V)} {M:aF},bJ K H M kvs ws->kvs.map (·.1)=ws.map (·.1)/\aJ K H M (kvs.map (·.2)) (ws.map (·.2))
 | _,_,_,.nil=>⟨rfl,.nil⟩
 | _,_,_,.cons h t=>by
  obtain ⟨h1,h2⟩:=Em t
  refine ⟨?_,.cons h.2 h2⟩
  rw [List.map_cons,List.map_cons,h1,h.1]
def zR (kvs:List (Key × U)):U:=.dic (kvs.map fun e=>[e.1]) false (kvs.map (·.2))
def Sy (kvs:List (List Key × U)):U:=.dic (kvs.map (·.1)) true (kvs.map (·.2))
theorem lP {us:List U} {a:Addr} (rm:RelM K H M1) (h:M1 a=some (.lst us)) (hn:M' a=none) (st:aR H M1 H M'):aM K H M' (.lst us) (.ref a):=by
 obtain ⟨vs,h1,r⟩:=rm a _ h
 exact sY hn h1 (r.stp st)
theorem Er {κ:Type} {kvs kvs':List (κ × U)} {ws:List (κ × V)} (r:bJ K H M1 kvs ws) (hl:kvs.length=kvs'.length) (h:∀ (i:Nat) p p',kvs[i]?=some p->kvs'[i]?=some p'->p.1=p'.1/\∀ x,aM K H M1 p.2 x->aM K H M' p'.2 x):bJ K H M' kvs' ws:=by
 induction r generalizing kvs' with
 | nil=>cases kvs' with
  | nil=>exact .nil
  | cons a r=>simp at hl
 | cons q t ih=>cases kvs' with
  | nil=>simp at hl
  | cons a r =>
   obtain ⟨h1,h2⟩:=h 0 _ _ rfl rfl
   exact .cons ⟨h1 ▸ q.1,h2 _ q.2⟩ (ih (by simpa using hl) fun i p p' e1 e2=>h (i + 1) p p' (by simpa using e1) (by simpa using e2))
end
end U2
namespace L2
open PySem PySem.Spec PyProof.Rows
section
variable {X:Cx} {o e f:Expr} {apos cpos:Pos} {td ty tx:TE}
end
end L2
namespace U2
open PySem PySem.Spec PyProof.Rows L2
end U2
namespace U2
open PySem PySem.Spec PyProof.Rows L2
end U2
namespace L2
open PySem PySem.Spec PyProof.Rows
section
variable {prog:Program} {w:World} {A:Around} {E:Value->Shared->Prop} {s:Shared}
theorem E3 {α β:Type} {R:α->β->Prop}:∀ {l:List α} {r:List β},Paired R l r->l.length=r.length
 | _,_,.nil=>rfl
 | _,_,.cons _ t=>by simp [E3 t]
theorem GD {α β:Type} {R:α->β->Prop} {P:β->Prop} (h:∀ a b,R a b->P b):∀ {l:List α} {r:List β},Paired R l r->∀ b∈r,P b
 | _,_,.nil,b,hb=>by cases hb
 | _,_,.cons x t,b,hb=>by
  rcases List.mem_cons.mp hb with rfl | hb
  ·exact h _ _ x
  ·exact GD h t b hb
theorem R6 (vs:List Value):(vs.toArray.zip vs.toArray).map (·.2)=vs.toArray:=by
 rw [Array.map_snd_zip (Nat.le_refl _)]
open PySem.W in
end
theorem N1:∀ {ts:List Addr} {us:List Value},Vals (ts.map V.ref) us->us=ts.map Value.ref
 | [],_,r=>by cases r;rfl
 | t :: ts,_,r=>by
  cases r with
  | cons h q=>cases h;rw [N1 q];rfl
end L2
namespace U2
open PySem PySem.Spec PyProof.Rows L2
theorem Rq {K:PySem.W.Frag} {H:Hp} {M:aF}:∀ {ns:List Int} {zs:List V},aJ K H M (ns.map U.int) zs->zs=ns.map V.int
 | [],zs,r=>r.inv_nil
 | n :: ns,zs,r=>by
  obtain ⟨w,ws,rfl,c,d⟩:=aJ.inv_cons (show aJ K H M (.int n :: ns.map U.int) zs from r)
  rw [c.int,Rq d];rfl
end U2
namespace U2
open PySem L2
end U2
namespace L2
open PySem PySem.Spec PyProof.Rows
section
variable {M:Model} {A:Around} {E:Value->Shared->Prop} {s:Shared} {base:Heap} {env:Env} {outer:List Env} {L e:Addr} {oe:Obj} {vs:Array Value}
def Sk (fl:Value->Prop) (h:Heap) (e:Addr) (vs:Array Value) (T:Option Addr):Prop:=match T with
 | none=>vs[1]?=some .none
 | some T=>vs[1]?=some (.ref T)/\T≠e/\∃ oT ts v,h.get? T=some oT/\oT.data=.fields ts/\ts[3]?=some v/\fl v
end
end L2
namespace L2
open PySem PySem.Spec
section
variable {prog:Program} {w:World} {A:Around} {E:Value->Shared->Prop} {h:Heap} {g:Array GenState} {d:Drawn} {t:Nat} {os:OsState}
variable {nm q:Str} {C N:Addr} {bs bm:List Value} {hdct:Bool} {sn:List Str} {sub:List Value} {ab:Bool} {col:Option Bool} {dd:Option Addr} {k0 k1 k2 k3 k5:Option Value}
def Sb:List Value:=[.type "ValueError",.type "Exception",.type "BaseException",.type "object"]
def QW (h:Heap) (C:Addr) (us:List Value):Heap:=(h.push { cls:=.type "tuple",data:=.seq us.toArray }).push { cls:=.ref C,data:=.fields #[.ref h.objs.size,.none,.none,.none,.bool false,.none] }
theorem Rw (h:Heap) (C:Addr) (us:List Value):∀ b o,h.get? b=some o->(QW h C us).get? b=some o:=fun b o e=>Heap.get?_push_of_some _ (Heap.get?_push_of_some _ e)
end
end L2
namespace L2
open PySem PySem.Spec
open Builtin Builtin.ObjectAttr
section
variable {prog:Program} {w:World} {A:Around} {E:Value->Shared->Prop} {h:Heap} {g:Array GenState} {d:Drawn} {t:Nat} {os:OsState}
variable {nm q:Str} {C N R x:Addr} {bs:List Value} {sn:List Str} {sub:List Value} {ab:Bool} {col:Option Bool} {dd:Option Addr} {k0 k1 k2 k3 k5:Option Value} {K:PySem.W.Frag} {name:Str} {v:Value}
abbrev SO (R:Addr):List Value:=.ref R :: Sb
def R4 (C t:Addr) (dx:Option Addr):Obj:={ cls:=.ref C,dict:=dx,data:=.fields #[.ref t,.none,.none,.none,.bool false,.none] }
end
end L2
namespace L2
open PySem PySem.Spec PyProof.Rows
end L2
namespace L2
open PySem PySem.Spec PyProof.Rows
def Sx (a C:Addr) (dx:Option Addr) (h:Heap):Prop:=∃ t,h.get? a=some (R4 C t dx)
section
variable {P:Program} {w:World} {H:Hp} {h h':Heap} {a d:Addr} {o:HO}
end
section
variable {X:Cx} {e1 e2:Expr} {t1 t2 ta tv:TE} {p pos apos pos':Pos} {r f:Str} {R:Addr}
theorem R5 {H:Hp} {a:Addr} {o:HO} (h:H a=some o):upd H a o=H:=by
 funext b;unfold upd;split
 ·rename_i e;subst e;exact h.symm
 ·rfl
end
end L2
namespace L2
open PySem PySem.Spec PyProof.Rows
structure Rz (fl:Value->Prop) (sz:Nat) (nw:Addr->Prop) (h:Heap) (a C d:Addr) (fs:List (Str × V)):Prop where
 sa:sz<=a
 na:nw a
 nd:nw d
 ad:a≠d
 obj:∃ oe vs T,h.get? a=some oe/\oe.cls=.ref C/\oe.dict=some d/\oe.data=.fields vs/\Sk fl h a vs T/\∀ T',T=some T'->sz<=T'/\nw T'/\T'≠d
 att:∃ mA,h.Ns1 d mA/\∀ f,jR (fs.lookup f) (mA f)
 cx:fs.length=1->∀ oe vs,h.get? a=some oe->oe.data=.fields vs->vs[2]?=some .none
def Sa (X:Cx) (pins:List (Addr × Obj)) (H:Hp) (b:Addr):Prop:=X.s₀.heap.get? b=none/\H b=none/\b≠X.env.locals/\∀ p∈X.pn++pins,p.1≠b
section
variable {X:Cx} {pins:List (Addr × Obj)} {σ:St} {H:Hp} {s:Shared} {a C d:Addr} {fs:List (Str × V)}
def Sh (X:Cx) (v:Value):Prop:=v=.none\/v=rawInt X.env.locals
abbrev Ss (X:Cx) (pins:List (Addr × Obj)) (H:Hp) (h:Heap) (a C d:Addr) (fs:List (Str × V)):Prop:=Rz (Sh X) X.s₀.heap.objs.size (Sa X pins H) h a C d fs
end
end L2
namespace L2
open PySem PySem.Spec PyProof.Rows
def Se (P:Program) (w:World):wL:=fun outer H s E e s'=>∃ a C d fs H',e=.ref a/\s'.os=s.os/\AllBare s'.gens/\Un (iU outer) [] H H' s.heap s'.heap/\fR P w H' s'.heap /\
 Rz (fun v=>v=.none) s.heap.objs.size (fun b=>s.heap.get? b=none/\H' b=none) s'.heap a C d fs/\E (.ref C) (some d) (upd H' d (.xd fs))
abbrev XS:=Value->Option Addr->St->Hp->Prop
abbrev Sd:=Ends->XS->St->Hp->Prop
abbrev Sj:=St->Hp->VK->XS->Prop
section
variable {X:Cx} {e:Expr} {te:TE} {tx:Sj} {st:Stmt} {rest a b:List Stmt} {t u:TS} {t' u':Sd} {pos:Pos}
abbrev SJ (X:Cx):Prop:=X.xe=fun _ _=>False
end
end L2
namespace L2
open PySem PySem.Spec PyProof.Rows
section
variable {X:Cx}
end
end L2
namespace L2
open PySem PySem.Spec PyProof.Rows
section
variable {X:Cx} {pins:List (Addr × Obj)} {σ:St} {H:Hp} {s:Shared}
end
end L2
namespace L2
open PySem PySem.Spec PyProof.Rows
section
variable {X:Cx} {pins pl:List (Addr × Obj)} {σ:St} {H:Hp} {s:Shared} {a C d:Addr} {fs:List (Str × V)}
end
end L2
namespace L2
open PySem PySem.Spec
section
variable {prog:Program} {w:World} {A:Around} {E:Value->Shared->Prop} {h:Heap} {g:Array GenState} {d:Drawn} {t:Nat} {os:OsState} {K:PySem.W.Frag} {a C R fI:Addr} {o:Obj}
end
end L2
namespace U2
open PySem PySem.Spec L2
abbrev Rx:=Addr->List (Str × U)->SU->aF->Prop
abbrev RK:=Addr->List (Str × U)->aF->Prop
abbrev Si:=qA->Rx->SU->aF->Prop
abbrev Sl:=SU->aF->UK->Rx->Prop
abbrev PV:=List U->aF->UK->RK->Prop
def iG:U->Option V
 | .non=>some .non
 | .bl b=>some (.bl b)
 | .int i=>some (.int i)
 | .str x=>some (.str x)
 | _=>none
def RZ (fs':List (Str × U)) (fs:List (Str × V)):Prop:=Paired (fun (p:Str × U) (q:Str × V)=>p.1=q.1/\iG p.2=some q.2) fs' fs
def Ri (K:PySem.W.Frag) (H:Hp) (M:aF) (E':RK) (E:XK):Prop:=∀ C fs' fs H1 M1 d,aR H M H1 M1->RelM K H1 M1->RZ fs' fs->H1 d=none->E' C fs' M1->E (.ref C) (some d) (upd H1 d (.xd fs))
def N2 (K:PySem.W.Frag) (sp:PV):Sp:=fun vs H Q E=>∃ us M Q' E',RelM K H M/\aJ K H M us vs/\sp us M Q' E'/\dH K H M Q' Q/\Ri K H M E' E
section
variable {D:Dat} {e:Expr} {te:UE} {tx:Sl} {st:Stmt} {rest a b:List Stmt} {t u:US} {t' u':Si} {pos:Pos}
structure NT (P:Program) (w:World) (K:PySem.W.Frag) (mg:Str->Option Value) (base:Heap) (j:Nat) (x:Str) (sp:PV) (dus:List U):Prop where
 ex:∃ f fd ps dvs ds,fF P w K mg base (Se P w) j f fd ps (N2 K sp)/\mg x=some (.ref f)/\PySem.W.keepIn K (.ref f)=true/\Binds K fd ps ds/\Vals dvs ds/\∀ H M,aJ K H M dus dvs
abbrev SD (D:Dat):=NT D.prog D.w D.K D.mg D.base
end
section
variable {P:Program} {w:World} {K:PySem.W.Frag} {mg:Str->Option Value} {base:Heap}
end
end U2
namespace U2
open PySem PySem.Spec L2
def R1:V->U
 | .non=>.non
 | .bl b=>.bl b
 | .int i=>.int i
 | .str x=>.str x
 | .ref a=>.ref a
 | .ty n=>.ty n
 | _=>.lst []
theorem Ra {u:U} {v:V} (e:iG u=some v):u=R1 v:=by
 cases u <;> first | (cases e;rfl) | cases e
section
variable {D:Dat} {a0 C:Addr} {F:List (Str × U)} {e:Expr} {te:UE} {es:List Expr} {tas:UA} {pos:Pos} {st:Stmt} {sts:List Stmt} {t u:US}
def GI:V->Value
 | .ref a=>.ref a
 | .ty n=>.type n
 | _=>.none
theorem JY {v:V} {u:Value} (r:RelV v u) (n:GI v≠.none):u=GI v:=by
 cases v <;> first | exact r | exact absurd rfl n
theorem IT:∀ {vs:List V} {us:List Value},Vals vs us->(∀ v∈vs,GI v≠.none)->us=vs.map GI
 | _,_,.nil,_=>rfl
 | _,_,.cons r t,n=>by rw [JY r (n _ List.mem_cons_self),IT t fun v hv=>n v (List.mem_cons_of_mem _ hv)];rfl
end
end U2
namespace U2
open PySem PySem.Spec PyProof.Rows L2
end U2
namespace L2
open PySem PySem.Spec PyProof.Rows
theorem ME:∀ {Ts:List String} {us:List Value},Vals (Ts.map V.ty) us->us=Ts.map Value.type
 | [],_,r=>by cases r;rfl
 | T :: Ts,_,r=>by
  cases r with
  | cons h t=>cases h;rw [ME t];rfl
end L2
namespace U2
open PySem PySem.Spec PyProof.Rows L2
def AK:List U->Option (List String)
 | []=>some []
 | .ty T :: r=>(AK r).map (T :: ·)
 | _=>none
theorem Le {K:PySem.W.Frag} {H:Hp} {M:aF}:∀ {us:List U} {vs:List V} {Ts:List String},aJ K H M us vs->AK us=some Ts->vs=Ts.map V.ty
 | [],vs,Ts,r,e=>by
  simp only [AK] at e
  cases e
  simp only [aJ] at r;rw [r];rfl
 | u :: us,vs,Ts,r,e=>by
  simp only [aJ] at r
  obtain ⟨v,vs',rfl,a,b⟩:=r
  cases u with
  | ty T =>
   simp only [AK] at e
   cases e2:AK us with
   | none=>rw [e2] at e;cases e
   | some Ts' =>
    rw [e2] at e;cases e
    rw [a.ty,Le b e2];rfl
  | _=>simp only [AK] at e;cases e
def RR (t:String):List String->Option Bool
 | []=>some false
 | T :: r=>match bE t T with
  | some true=>some true
  | some false=>RR t r
  | none=>none
end U2
namespace L2
open PySem PySem.Spec PyProof.Rows
section
variable {prog:Program} {w:World} {A:Around} {E:Value->Shared->Prop} {s:Shared}
end
end L2
namespace L2
open PySem PySem.Spec PyProof.Rows
end L2
namespace U2
open PySem PySem.Spec PyProof.Rows L2
end U2
namespace U2
open PySem PySem.Spec PyProof.Rows L2
section
variable {prog:Program} {w:World} {A:Around} {E:Value->Shared->Prop} {s:Shared} {r:Addr} {a b:Int} {t u v:Tok}
end
section
variable {X:Cx} {tg a b e:Expr} {ta:TA} {te:TE} {p pos:Pos}
end
section
variable {D:Dat} {tg a b:Expr} {p p2 pos pos2:Pos} {ta:UA}
end
end U2
namespace U2
open PySem PySem.Spec PyProof.Rows L2
section
variable {X:Cx}
theorem IS (hc:X.calm=true):jN X (.builtin "sum") (fun xs H Q=>∃ (p:Addr) (ns:List Int),xs=[.ref p]/\eC X.K H p (ns.map V.int)/\Q (.int ns.sum) H):=by
 intro pins s σ H xs us Q I r h
 obtain ⟨p,ns,rfl,hq,q⟩:=h
 obtain ⟨u,rfl,rx⟩:=vals1 r
 cases rx
 obtain ⟨its,r',pl,hz⟩:=I.list hq
 have hi:IntsAre its ns:=intsAre_of r'
 obtain ⟨ys,e⟩:=hi.allInts.items
 have hns:ns=ys.toList.map (·.1):=by
  rw [<- hi.numsOf,<- nums_intItems,<- e]
 have hl:=pl.isList
 rw [e] at hl
 subst hns
 refine sum_intListG (I.ok.hd hc) hl fun h' tk t' hk=>?_
 ·refine ⟨.int _,H,I.kept hk,⟨t',?_⟩,q⟩
  rw [preSum_eq,List.take_of_length_le (by simp)]
def yM:List U->aF->UK->Prop:=fun us M Q=>match us with
 | [x]=>match view M x with
  | .lst ws=>∃ ns,intsOf ws=some ns/\Q (.int ns.sum) M
  | _=>False
 | _=>False
theorem DB {D:Dat}:A5 D (.builtin "sum") yM:=⟨⟨_,fun X h=>by
  have:=(IS (X:=X) h.calm);rw [h.K] at this;exact this,fun xs us H M Q' rm rus h Q c=>by
 unfold yM at h
 split at h
 ·rename_i x
  obtain ⟨v,rfl,a1⟩:=rus.one
  split at h
  ·rename_i ws e
   obtain ⟨ns,e2,q⟩:=h
   obtain ⟨b,zvs,rfl,s2,r2⟩:=eW rm a1 e
   rw [mO r2 e2] at s2
   exact ⟨b,ns,rfl,s2,c.here rm dE q⟩
  ·exact h.elim
 ·exact h.elim⟩⟩
end
end U2
namespace L2
open PySem PySem.Spec PyProof.Rows
def AH (σ:List Str) (v:Str):List Str:=if σ.any (· == v) then σ else σ++[v]
def Ee (l:List Str):List Str:=l.foldl AH []
theorem K6 (l:List Str) (v:Str):Ee (l++[v])=AH (Ee l) v:=by simp [Ee,List.foldl_append]
theorem RT (σ:List Str) (v:Str):(AH σ v).length=if σ.any (· == v) then σ.length else σ.length + 1:=by
 unfold AH;split <;> simp
theorem J7 (σ:List Str) (v k:Str):(AH σ v).any (· == k)=(σ.any (· == k) || decide (k=v)):=by
 unfold AH
 by_cases h:σ.any (· == v)=true
 ·rw [if_pos h]
  by_cases e:k=v
  ·subst e;simp [h]
  ·simp [e]
 ·rw [if_neg h,List.any_append]
  by_cases e:k=v
  ·subst e;simp
  ·have:(v == k)=false:=by simpa using fun z:v=k=>e z.symm
   simp [this,e]
theorem snoc_ind {P:List Str->Prop} (h0:P []) (h1:∀ l v,P l->P (l++[v])) (l:List Str):P l:=by
 have:∀ r:List Str,P r.reverse:=by
  intro r
  induction r with
  | nil=>exact h0
  | cons a r ih=>rw [List.reverse_cons];exact h1 _ _ ih
 have:=this l.reverse
 rwa [List.reverse_reverse] at this
theorem R7 (l:List Str) (k:Str):(Ee l).any (· == k)=decide (k∈l):=by
 refine snoc_ind (P:=fun l=>(Ee l).any (· == k)=decide (k∈l)) (by simp [Ee]) (fun l v ih=>?_) l
 rw [K6,J7,ih];by_cases h:k∈l <;> by_cases e:k=v <;> simp [h,e]
section
variable {prog:Program} {w:World} {A:Around} {I:Addr} {fp wr:List Addr} {G:Array GenState->Array GenState->Prop} {n:Nat} {P:Nat->Value->Prop} {St:Nat->Shared->Prop} {R:Result->Shared->Prop}
end
section
variable {prog:Program} {w:World} {A:Around} {E:Value->Shared->Prop} {s:Shared}
end
end L2
namespace L2
open PySem PySem.Spec PyProof.Rows
section
variable {X:Cx} {a:Expr} {ta:TA} {p p2 pos pos2:Pos}
end
end L2
namespace U2
open PySem PySem.Spec PyProof.Rows L2
theorem DD {K:PySem.W.Frag} {H:Hp} {M:aF}:∀ {ss:List Str} {vs:List V},aJ K H M (ss.map U.str) vs->vs=ss.map V.str
 | [],vs,r=>r.inv_nil
 | s :: ss,vs,r=>by
  obtain ⟨v,vs',rfl,a,b⟩:=aJ.inv_cons r
  rw [a.str,DD b];rfl
section
variable {D:Dat} {a:Expr} {ta:UA} {pos p p2 pos2:Pos}
end
end U2
namespace L2
open PySem PySem.Spec PyProof.Rows
section
variable {prog:Program} {w:World} {A:Around} {E:Value->Shared->Prop} {s:Shared}
end
section
variable {X:Cx} {a:Expr} {ta:TA} {p p2 pos pos2:Pos}
end
end L2
namespace U2
open PySem PySem.Spec PyProof.Rows L2
section
variable {D:Dat} {a:Expr} {ta:UA} {pos p p2 pos2:Pos}
end
end U2
namespace U2
open PySem PySem.Spec PyProof.Rows L2
section
variable {prog:Program} {w:World} {A:Around} {E:Value->Shared->Prop} {s:Shared}
end
end U2
namespace U2
open PySem PySem.Spec PyProof.Rows L2
end U2
namespace U2
open PySem PySem.Spec PyProof.Rows L2
structure vP (P:Program) (w:World) (K:PySem.W.Frag) (mg:Str->Option Value) (base:Heap) (j:Nat) (C:Addr) (m:Str) (sp:bG):Prop where
 ex:∃ f fd ps,fF P w K mg base kP j f fd ps (cL K sp)/\Meth K C m f/\Binds K fd ps []
structure rN (P:Program) (w:World) (K:PySem.W.Frag) (mg:Str->Option Value) (base:Heap) (j:Nat) (x:Str) (C:Addr) (sp:bG):Prop where
 ex:∃ f fd ps,fF P w K mg base kP j f fd ps (cL K sp)/\Mk K C f/\Binds K fd ps []/\mg x=some (.ref C)
def dF (C:Addr) (f:Str) (x:U) (M:aF):Option U:=match x with
 | .ref a=>match M a with
  | some (.ins C' _ fs)=>if C'=C then fs.lookup f else none
  | _=>none
 | _=>none
theorem cD {C a dx:Addr} {f:Str} {M:aF} {fs:List (Str × U)} (h:M a=some (.ins C dx fs)):dF C f (.ref a) M=fs.lookup f:=by
 simp only [dF,h,if_pos]
def mD (f:Str) (v:U):List (Str × U)->List (Str × U)
 | []=>[(f,v)]
 | (g,u) :: r=>if g=f then (g,v) :: r else (g,u) :: mD f v r
section
variable {K:PySem.W.Frag} {H:Hp} {M:aF}
theorem bJ.look {f:Str} {u:U}:∀ {fs:List (Str × U)} {ws:List (Str × V)},bJ K H M fs ws->fs.lookup f=some u->∃ v,ws.lookup f=some v/\aM K H M u v
 | _,_,.nil,h=>by cases h
 | (g,x) :: fs,(g',y) :: ws,.cons h t,e=>by
  obtain ⟨rfl,h2⟩:=h
  rw [List.lookup_cons] at e ⊢
  dsimp only at e ⊢
  cases q:f == g with
  | true=>rw [q] at e;cases e;exact ⟨y,rfl,h2⟩
  | false=>rw [q] at e;exact bJ.look t e
theorem bJ.lookN {f:Str}:∀ {fs:List (Str × U)} {ws:List (Str × V)},bJ K H M fs ws->fs.lookup f=none->ws.lookup f=none
 | _,_,.nil,h=>rfl
 | (g,x) :: fs,(g',y) :: ws,.cons h t,e=>by
  obtain ⟨rfl,h2⟩:=h
  rw [List.lookup_cons] at e ⊢
  dsimp only at e ⊢
  cases q:f == g with
  | true=>rw [q] at e;cases e
  | false=>rw [q] at e;exact bJ.lookN t e
theorem bJ.putF {f:Str} {u:U} {v:V} (r:aM K H M u v):∀ {fs:List (Str × U)} {ws:List (Str × V)},bJ K H M fs ws->bJ K H M (mD f u fs) (L2.putF f v ws)
 | _,_,.nil=>.cons ⟨rfl,r⟩ .nil
 | (g,x) :: fs,(g',y) :: ws,.cons h t=>by
  obtain ⟨h1,h2⟩:=h
  cases h1
  simp only [mD,L2.putF]
  by_cases q:g=f
  ·rw [if_pos q,if_pos q];exact .cons ⟨rfl,r⟩ t
  ·rw [if_neg q,if_neg q];exact .cons ⟨rfl,h2⟩ (bJ.putF r t)
theorem bJ.len {κ:Type}:∀ {fs:List (κ × U)} {ws:List (κ × V)},bJ K H M fs ws->fs.length=ws.length
 | _,_,.nil=>rfl
 | _,_,.cons _ t=>by simp only [List.length_cons];rw [bJ.len t]
end
def g6 (C:Addr) (f:Str) (ta:UE):UE:=fun τ M Q=>ta τ M fun x M1=>match dF C f x M1 with
 | some u=>Q u M1
 | none=>False
def sQ (C:Addr) (f:Str) (ta tv:UE):US:=fun D τ M=>tv τ M fun y M1=>ta τ M1 fun x M2=>match x with
 | .ref a=>match M2 a with
  | some (.ins C' dx fs)=>C'=C/\fs.length < 1000/\D.nx τ (mup M2 a (.ins C dx (mD f y fs)))
  | _=>False
 | _=>False
def BM (C:Addr) (m:Str) (sp:bG) (ta:UE) (t:UA):UE:=fun τ M Q=>ta τ M fun x M1=>match x with
 | .ref a=>match M1 a with
  | some (.ins C' _ fs)=>C'=C/\fs.lookup m=none/\t τ M1 fun us M2=>sp (.ref a :: us) M2 Q
  | _=>False
 | _=>False
def B0 (C:Addr) (sp:bG) (t:UA):UE:=fun τ M Q=>t τ M fun us M1=>∀ x dx,M1 x=none->M1 dx=none->dx≠x->sp (.ref x :: us) (mup M1 x (.ins C dx [])) (fun u M2=>u=.non/\Q (.ref x) M2)
section
variable {K:PySem.W.Frag}
theorem Pr {H:Hp} {M:aF} {C:Addr} {f:Str} {x u:U} {v:V} (rm:RelM K H M) (r:aM K H M x v) (h:dF C f x M=some u):∃ a dx fs y,v=.ref a/\H a=some (.ins C dx fs)/\fs.lookup f=some y/\aM K H M u y:=by
 unfold dF at h
 split at h
 ·rename_i a
  split at h
  ·rename_i C' dx fs e
   split at h
   ·rename_i hc
    subst hc
    obtain ⟨ws,h1,h2⟩:=rm a _ e
    obtain ⟨y,h3,h4⟩:=h2.look h
    exact ⟨a,dx,ws,y,r.ref,h1,h3,h4⟩
   ·cases h
  ·cases h
 ·cases h
theorem Og {C:Addr} {f:Str} {ta:TE} {ta':UE} (hc:fQ K C) (hn:bY K C f) (h:bS K ta ta'):bS K (OX K ta f) (g6 C f ta'):=fun σ τ H M Q' rs rm q Q c =>
 h σ τ H M _ rs rm q _ fun x v M1 H1 s1 rm1 ru h1=>by
  split at h1
  ·rename_i u e
   obtain ⟨a,dx,fs,y,rfl,h2,h3,h4⟩:=Pr rm1 ru e
   exact ⟨a,C,dx,fs,y,rfl,h2,hc,hn,h3,c u y M1 H1 s1 rm1 h4 h1⟩
  ·exact h1.elim
theorem Kd {C:Addr} {f:Str} {ta tv:TE} {ta' tv':UE} (hc:fQ K C) (hn:bY K C f) (h:bS K ta ta') (hv:bS K tv tv'):lM K (PN K ta tv f) (sQ C f ta' tv'):=fun σ τ H M D' rs rm q D d =>
 hv σ τ H M _ rs rm q _ fun y w M1 H1 s1 rm1 ry h1=>h σ τ H1 M1 _ (rs.stp s1) rm1 h1 _ fun x v M2 H2 s2 rm2 ru h2=>by
  split at h2
  ·rename_i a
   split at h2
   ·rename_i C' dx fs e
    obtain ⟨rfl,hl,hq⟩:=h2
    obtain ⟨ws,h3,h4⟩:=rm2 a _ e
    have st:aR H2 M2 (upd H2 a (.ins C' dx (L2.putF f w ws))) (mup M2 a (.ins C' dx (mD f y fs))):=aR.write e
    refine ⟨a,C',dx,ws,ru.ref,h3,hc,hn,by rw [<- h4.len];exact hl,?_⟩
    exact d.nx σ τ _ _ ((s1.trans s2).trans st) (rm2.put st ⟨_,cE,(h4.stp st).putF ((ry.stp s2).stp st)⟩) (((rs.stp s1).stp s2).stp st) hq
   ·exact h2.elim
  ·exact h2.elim
theorem Lp {C:Addr} {m:Str} {sp:bG} {ta:TE} {ta':UE} {t:TA} {t':UA} {E:XK} (h:bS K ta ta') (ht:jK K t t'):bS K (Gq C m (cL K sp) [] E ta t) (BM C m sp ta' t'):=fun σ τ H M Q' rs rm q Q c =>
 h σ τ H M _ rs rm q _ fun x v M1 H1 s1 rm1 ru h1=>by
  split at h1
  ·rename_i a
   split at h1
   ·rename_i C' dx fs e
    obtain ⟨rfl,hl,hq⟩:=h1
    obtain ⟨ws,h3,h4⟩:=rm1 a _ e
    cases ru.ref
    refine ⟨a,dx,ws,rfl,h3,h4.lookN hl,ht σ τ H1 M1 _ (rs.stp s1) rm1 hq _ fun us vs M2 H2 s2 rm2 rus h2=>?_⟩
    exact ⟨.ref a :: us,M2,Q',rm2,.cons jB (by rw [List.append_nil];exact rus),h2,dH.stp c (s1.trans s2)⟩
   ·exact h1.elim
  ·exact h1.elim
theorem Ks {C:Addr} {sp:bG} {t:TA} {t':UA} {E:XK} (ht:jK K t t'):bS K (Gm C (cL K sp) [] E t) (B0 C sp t'):=fun σ τ H M Q' rs rm q Q c =>
 ht σ τ H M _ rs rm q _ fun us vs M1 H1 s1 rm1 rus h1=>fun x dx hx hd ne=>by
  have q1:=h1 x dx (rm1.no hx) (rm1.no hd) ne
  have st1:aR H1 M1 (upd H1 dx (.own x)) M1:=aR.laid rm1 hd
  have rm2:RelM K (upd H1 dx (.own x)) M1:=rm1.laid hd
  have hx2:upd H1 dx (.own x) x=none:=by rw [bL (Ne.symm ne)];exact hx
  have cJ:aR (upd H1 dx (.own x)) M1 (upd (upd H1 dx (.own x)) x (.ins C dx [])) (mup M1 x (.ins C dx [])):=aR.own rm2 hx2
  have rm3:RelM K (upd (upd H1 dx (.own x)) x (.ins C dx [])) (mup M1 x (.ins C dx [])):=rm2.put cJ ⟨[],cE,.nil⟩
  refine ⟨.ref x :: us,_,_,rm3,.cons jB (by rw [List.append_nil];exact (rus.stp st1).stp cJ),q1,fun u v M2 H2 s2 rm4 ru hq=>?_⟩
  obtain ⟨rfl,hq⟩:=hq
  exact ⟨ru.non,c (.ref x) _ M2 H2 (((s1.trans st1).trans cJ).trans s2) rm4 jB hq⟩
end
section
variable {D:Dat} {a b c e o value:Expr} {ta tb tc te:UE} {pos p pos' apos:Pos} {es:List Expr} {tas:UA} {x f:Str} {C:Addr}
theorem dU (hc:fQ D.K C) (hn:bY D.K C f) (he:aY D e ta) (hb:∀ env,attributeBase e f env (eval e env)=eval e env:=by intro _;rfl):aY D (.Attribute e f pos) (g6 C f ta):=by
 obtain ⟨_,q,s⟩:=he
 exact ⟨_,fun X h=>by have:=P8 (pos:=pos) (f:=f) (q X h) (hb _);rw [h.K] at this;exact this,Og hc hn s⟩
theorem uR (hc:fQ D.K C) (hn:bY D.K C f) (ho:aY D o ta) (hv:aY D value te) (hs:∀ env,swapsWith value (some (.Attribute o f pos')) pos.line env=pure false:=by intro _;rfl):rO D (.Assign [.Attribute o f pos'] value pos) (sQ C f ta te):=by
 obtain ⟨_,q,s⟩:=ho;obtain ⟨_,q2,s2⟩:=hv
 exact ⟨_,fun X h=>by have:=Qh (pos:=pos) (pos':=pos') (f:=f) (q X h) (q2 X h) (hs _);rw [h.K] at this;exact this,Kd hc hn s s2⟩
theorem Ex {sp:bG} {m:Str} {j:Nat} {pl:Env->Sem Bool} (F:vP D.prog D.w D.K D.mg D.base j C m sp) (hc:fQ D.K C) (ho:aY D o ta) (ha:kQ D (e :: es) tas) (hj:j<=D.k:=by first | exact Nat.le_refl _ | (dsimp only;omega) | omega | (dsimp only [bR];omega))
  (he:∀ env,starEach (e :: es) env=(false,eval e env) :: starEach es env:=by intro _;rfl) (hpl:∀ env,(backTo pos (starEach es env)).any (·.1)=false:=by intro _;rfl)
  (ht:∀ env,eval (.Call (.Attribute o m apos) (e :: es) [] pos) env=(do
   let ov <- eval o env
   standAt apos.atName
   let (f,first) <- holding [ov] (getMethod ov m (pl env))
   callWith pos f first (backTo pos (starEach (e :: es) env)) (backToKw pos (keywordEach [] env))):=by intro _;rfl) :
  aY D (.Call (.Attribute o m apos) (e :: es) [] pos) (BM C m sp ta tas):=by
 obtain ⟨f,fd,ps,F,hm,hb⟩:=F.ex
 obtain ⟨_,q,s⟩:=ho;obtain ⟨_,q2,s2⟩:=ha
 refine ⟨Gq C m (cL D.K sp) [] E0 _ _,fun X h=>?_,Lp s s2⟩
 have F':fF X.prog X.w X.K X.mg X.base kP j f fd ps (cL D.K sp):=by rw [h.prog,h.w,h.K,h.mg,h.base];exact F
 exact Oa (pl:=pl X.env) (q X h) (by rw [h.K];exact hc) (by rw [h.K];exact hm) F' (h.room.mono hj) (by rw [h.K];exact hb) .nil yD (q2 X h) (he _) (hpl _) (ht _)
theorem EU {sp:bG} {j:Nat} (F:rN D.prog D.w D.K D.mg D.base j x C sp) (ha:kQ D (e :: es) tas) (hj:j + 1<=D.k:=by first | exact Nat.le_refl _ | (dsimp only;omega) | omega | (dsimp only [bR];omega)) (hg:D.sc.names.lookup x=some .globalImplicit:=by rfl) (hdb:(x == ("__debug__":Str))=false:=by decide)
  (he:∀ env,starEach (e :: es) env=(false,eval e env) :: starEach es env:=by intro _;rfl) (hpl:∀ env,(backTo pos (starEach es env)).any (·.1)=false:=by intro _;rfl):aY D (.Call (.Name x p) (e :: es) [] pos) (B0 C sp tas):=by
 obtain ⟨f,fd,ps,F,hM,hb,hm⟩:=F.ex
 obtain ⟨_,q,s⟩:=ha
 refine ⟨Gm C (cL D.K sp) [] E0 _,fun X h=>?_,Ks s⟩
 have F':fF X.prog X.w X.K X.mg X.base kP j f fd ps (cL D.K sp):=by rw [h.prog,h.w,h.K,h.mg,h.base];exact F
 exact OC (by rw [h.K];exact hM) F' (h.room.mono hj) (by show X.env.scope.names.lookup x=_;rw [h.sc];exact hg) (by rw [h.mg];exact hm) (by rw [h.K];exact hb) .nil yD (q X h) hdb (he _) (hpl _)
end
section
variable {P:Program} {w:World} {K:PySem.W.Frag} {mg:Str->Option Value} {base:Heap}
theorem Iy {x qn:Str} {st:Stmt} {f:Addr} {fd:FuncData} {N ps:List Str} {k:Nat} {sp:bG} {t:US} (F:cK K x qn st f fd) (S:bA N ps (aH st))
  (len:∀ us M Q,sp us M Q->us.length=ps.length)
  (h:mS ⟨P,w,K,mg,base,N,aH st,k,true,.none,""⟩ (aT st) t)
  (q:∀ us M Q,sp us M Q->t { nx:=fun _ M'=>jF Q .non M',rt:=jF Q } (eS N us) M):fF P w K mg base kP (k + 1) f fd ps (cL K sp):=by
 obtain ⟨t0,h1,h2⟩:=h
 refine F.ok S (fun vs H Q E ⟨us,M,Q',_,r,hs,_⟩=>by rw [<- r.length];exact len us M Q' hs) (fun cdv A outer s H vs Q E hr ⟨us,M,Q',rm,r,hs,c⟩=>?_)
 refine ⟨t0,h1 _ ⟨rfl,rfl,rfl,rfl,rfl,rfl,rfl,hr,rfl,rfl,fun _ _=>rfl,fun h=>absurd rfl h,fun _=>⟨rfl,rfl,rfl⟩⟩,?_⟩
 refine h2 _ (eS N us) H M _ (qH r) rm (q us M Q' hs) _ ⟨fun σ τ H1 M1 s1 rm1 rs1 q1=>?_,fun u v H1 M1 s1 rm1 ru q1=>jF.ok c s1 rm1 ru q1,fun _ _ _ _ _ _ _ z=>z.elim,fun _ _ _ _ _ _ _ z=>z.elim⟩
 exact jF.ok c s1 rm1 lN q1
theorem Fq {x qn:Str} {st:Stmt} {f C:Addr} {fd:FuncData} {N ps:List Str} {k:Nat} {sp:bG} {t:US} (F:cK K x qn st f fd) (hm:Meth K C x f) (S:bA N ps (aH st))
  (bind:∀ (kV doc pm:Value) (an:Option Addr) (cdv ct:Value) (us:List Value),us.length=ps.length->bindArgs (PySem.W.fnOf x qn (aZ st) (aT st) (aH st) .none kV doc pm an cdv ct) ⟨us,[]⟩=pure (ps.zip us))
  (len:∀ us M Q,sp us M Q->us.length=ps.length)
  (h:mS ⟨P,w,K,mg,base,N,aH st,k,true,.none,""⟩ (aT st) t)
  (q:∀ us M Q,sp us M Q->t { nx:=fun _ M'=>jF Q .non M',rt:=jF Q } (eS N us) M):vP P w K mg base (k + 1) C x sp :=
 ⟨f,fd,ps,Iy F S len h q,hm,F.binds bind⟩
theorem Fo {x qn cn:Str} {st:Stmt} {f C:Addr} {fd:FuncData} {N ps:List Str} {k:Nat} {sp:bG} {t:US} (F:cK K x qn st f fd) (hM:Mk K C f) (hg:mg cn=some (.ref C)) (S:bA N ps (aH st))
  (bind:∀ (kV doc pm:Value) (an:Option Addr) (cdv ct:Value) (us:List Value),us.length=ps.length->bindArgs (PySem.W.fnOf x qn (aZ st) (aT st) (aH st) .none kV doc pm an cdv ct) ⟨us,[]⟩=pure (ps.zip us))
  (len:∀ us M Q,sp us M Q->us.length=ps.length)
  (h:mS ⟨P,w,K,mg,base,N,aH st,k,true,.none,""⟩ (aT st) t)
  (q:∀ us M Q,sp us M Q->t { nx:=fun _ M'=>jF Q .non M',rt:=jF Q } (eS N us) M):rN P w K mg base (k + 1) cn C sp :=
 ⟨f,fd,ps,Iy F S len h q,hM,F.binds bind,hg⟩
end
end U2
namespace U2
open PySem PySem.Spec PyProof.Rows L2
def LQ (T:List (Str × Fl)):It:=⟨fun i _=>i < T.length,fun i H x H'=>H'=H/\∃ p,T[i]?=some p/\x=.str p.1,fun i _=>T.length<=i⟩
theorem Bh {P:Program} {w:World}:∀ {es:List DictEntry} {kvs:List (Str × Value)} {T:List (Str × Fl)},Pairs (PySem.strKind P w) es kvs->PyProof.V.FlatPairs PyData.str kvs (Gb T)->es.length=T.length/\∀ (i:Nat) (e:DictEntry),es[i]?=some e->∃ p,T[i]?=some p/\RelV (.str p.1) e.key
 | _,_,[],.nil,_=>⟨rfl,fun i e h=>by simp at h⟩
 | _,_,(a,b) :: T,.nil,h=>by cases h
 | _,_,[],.cons _ _ _,h=>by cases h
 | _,_,(a,b) :: T,.cons (e:=e0) h1 h2 t,h=>by
  cases h with
  | cons h3 h4 =>
   obtain ⟨hl,ih⟩:=Bh t h4
   refine ⟨by simp [hl],fun i e h=>?_⟩
   cases i with
   | zero =>
    simp at h;subst h
    refine ⟨_,rfl,?_⟩
    obtain ⟨tk,q⟩:=Value.isStrOf_shape h1
    exact ⟨tk,q⟩
   | succ j=>simpa using ih j e (by simpa using h)
theorem Ah {P:Program} {w:World} {K:PySem.W.Frag} {d:Addr} {T:List (Str × Fl)} {o:Obj} {h:Heap} (t:jP P w K d T) (ho:K.lookup d=some o) (hk:K.In h):vC h d (wV o) (LL o)/\(wV o).size=T.length/\(d == sysModules)=false/\∀ (i:Nat) en,(wV o)[i]?=some en->∃ p,T[i]?=some p/\RelV (.str p.1) en.key:=by
 obtain ⟨lo,kvs,⟨o',es,ep,g,c,dd,kk,pp,nn⟩,hf⟩:=t.at_ h hk
 rw [hk _ _ ho] at g;cases g
 have e1:wV o=es:=by unfold wV;rw [dd]
 have e2:LL o=ep:=by unfold LL;rw [dd]
 obtain ⟨hl,pr⟩:=Bh pp hf
 rw [e1,e2]
 exact ⟨⟨o,hk _ _ ho,c,dd⟩,by simpa using hl,lo,fun i en hi=>pr i en (by rw [Array.getElem?_toList];exact hi)⟩
theorem Jw {P:Program} {w:World} {K:PySem.W.Frag} {tg:Expr} (d it:Addr) (o:Obj) {T:List (Str × Fl)} (t:jP P w K d T) (ho:K.lookup d=some o):Turn P w K tg (LQ T) [it] it (fun i h=>h.IsKeyIter it d i (wV o).size (LL o)) where
 mem:=by simp
 obj:=fun i h st b hb=>by
  have e:b=it:=by simpa using hb
  subst e
  obtain ⟨o,e,c,d⟩:=st
  exact ⟨o,e,fun v z=>by rw [d] at z;cases z⟩
 keep:=fun i h h' st k=>st.at fun o e=>k it (by simp) o e
 item:=by
  intro X hP hw hK hc i pins s σ H E I hf st hg
  subst hP hw hK
  obtain ⟨raw,hlen,hs,at'⟩:=Ah t ho I.kIn
  obtain ⟨f0,f1,f2,f3,f4,f5⟩:=hf it (by simp)
  have hil:i < (wV o).size:=by rw [hlen];exact hg
  obtain ⟨p,hk,rk⟩:=at' i _ (Array.getElem?_eq_getElem hil)
  refine KO st raw (Array.getElem?_eq_getElem hil) fun h' st' sb=>?_
  have I1:Inv X pins σ H { s with heap:=h' }:=I.turned (t':=s.toks) (fun b o hb e=>(sb.2 b hb).trans e) f0 f1 f3 f4 f5
  obtain ⟨ob,e,c,dd⟩:=id st'
  exact ⟨_,rfl,vG (s:={ s with heap:=h' }) e c dd (by decide) ⟨.str p.1,H,I1,rk,⟨rfl,p,hk,rfl⟩,st',fun b hb=>(hf b hb).1⟩⟩
 done:=by
  intro X hP hw hK hc i pins s σ H E I hf st hg
  subst hP hw hK
  obtain ⟨raw,hlen,hs,at'⟩:=Ah t ho I.kIn
  obtain ⟨f0,f1,f2,f3,f4,f5⟩:=hf it (by simp)
  exact Nk (I.ok.hd hc) st raw (Array.getElem?_eq_none (by rw [hlen];exact hg)) fun h' eb=>⟨rfl,I.turned (t':=s.toks) (fun b o hb e=>eb b o hb e) f0 f1 f3 f4 f5⟩
 self:=fun _ _ _ _ _ st h=>wpAny_pyIter_keyiter st h
def OV (d:Addr) (T:List (Str × Fl)) (tl:TE):TI:=fun σ H R=>tl σ H fun x H1=>x=.ref d/\R (LQ T) H1
theorem QK {X:Cx} {tg l:Expr} {tl:TE} {d:Addr} {o:Obj} {T:List (Str × Fl)} (t:jP X.prog X.w X.K d T) (ho:X.K.lookup d=some o) (hl:PE X l tl):PI X tg l (OV d T tl):=by
 intro pins s σ H R I h
 refine bI (hl pins s σ H _ I h) fun v s1 ⟨x,H1,I1,r1,q1⟩=>?_
 obtain ⟨e,hq⟩:=q1
 subst e
 cases r1
 obtain ⟨raw,hlen,hs,_⟩:=Ah t ho I1.kIn
 refine JF hs raw ?_
 refine ⟨s1.heap.objs.size,[s1.heap.objs.size],_,_,H1,rfl,I1.kept (t':=s1.toks) fun b o e=>Heap.get?_push_of_some _ e,Jw d _ o t ho,⟨_,Heap.get?_push_size _ rfl,rfl,rfl⟩,fun b hb=>?_,hq⟩
 have e:b=s1.heap.objs.size:=by simpa using hb
 subst e
 exact I1.fpOk (Nat.le_refl _) (I1.hok.fresh (Nat.le_refl _))
def Fd (d:Addr) (T:List (Str × Fl)) (te:UE):UI:=fun τ M R=>te τ M fun x M1=>match x with
 | .ref a=>a=d/\R ⟨none,T.map fun p=>.str p.1⟩ M1
 | _=>False
theorem N0 {K:PySem.W.Frag} {d:Addr} {T:List (Str × Fl)} {t:TE} {t':UE} (h:bS K t t'):pW K (OV d T t) (Fd d T t'):=fun σ τ H M R' rs rm q R c=>h σ τ H M _ rs rm q _ fun x v M1 H1 s1 rm1 ru h1=>by
 cases x with
 | ref a =>
  obtain ⟨rfl,h1⟩:=h1
  refine ⟨ru.ref,c _ _ M1 H1 s1 rm1 ⟨fun H2 M2 s rm2 _ i w ew=>?_,fun H2 M2 s rm2 _=>?_⟩ h1⟩
  ·simp only [List.getElem?_map,Option.map_eq_some_iff] at ew
   obtain ⟨p,e1,rfl⟩:=ew
   refine ⟨(List.getElem?_eq_some_iff.mp e1).1,fun x H3 y=>?_⟩
   obtain ⟨rfl,p',e2,rfl⟩:=y
   rw [e1] at e2;cases e2
   exact ⟨aR.refl _ _,rm2,lL⟩
  ·show T.length<=(T.map _).length
   rw [List.length_map];exact Nat.le_refl _
 | _=>exact h1.elim
theorem MA {D:Dat} {tg e:Expr} {te:UE} {d:Addr} {T:List (Str × Fl)} (t:jP D.prog D.w D.K d T) (ho:∃ o,D.K.lookup d=some o) (h:aY D e te):uW D tg e (Fd d T te):=by
 obtain ⟨_,q,s⟩:=h
 obtain ⟨o,ho⟩:=ho
 exact ⟨_,fun X h=>QK (o:=o) (by rw [h.prog,h.w,h.K];exact t) (by rw [h.K];exact ho) (q X h),N0 s⟩
end U2
namespace U2
open PySem PySem.Spec PyProof.Rows L2
def EL (K:PySem.W.Frag):V->List V->Hp->VK->Prop:=fun x vs H Q=>∃ p xs y ds d j,x=.ref p/\vs=[y]/\eC K H p xs/\cP K H ds xs/\fN K H d y/\PyData.canLayAll0 ds=true/\d.canLay0=true/\d.depth<=60 /\
 (∃ e,ds[j]?=some e/\PyData.eqv e d=true)/\(∀ m e,m < j->ds[m]?=some e->PyData.eqv e d=false)/\Q (.int (j:Nat)) H
open Classical in
theorem G8 {X:Cx} {k:Nat} (hr:dC k X.A):LO X "list.index" (EL X.K):=by
 intro pins s σ H x vs v us Q I rx rv h
 obtain ⟨p,xs,y,ds,d,j,rfl,rfl,hq,hds,hd,c1,c2,hdep,⟨e,he1,he2⟩,hno,q⟩:=h
 cases rx
 obtain ⟨u,rfl,ru⟩:=rv.one
 obtain ⟨its,r,pl,hz⟩:=I.list hq
 obtain ⟨⟨cls,dd,data,sl⟩,n,ho,hc,_,hdt⟩:=pl
 simp only at hc hdt
 subst hc hdt
 have hl:ds.length=its.length:=by rw [hds.len,r.length]
 obtain ⟨bs,rb⟩:=hd.reads I ru
 have key:∀ (j:Nat) (d':PyData) (w:Value),ds[j]?=some d'->its[j]?=some w->SeqAt.EqAt X.A.in1 s w u (PyData.eqv d' d):=fun j d' w e1 e2=>by
  obtain ⟨as,ra⟩:=cP.at I hds r j d' w e1 e2
  exact SeqAt.eqAt_reads d' d _ _ _ _ _ _ ra rb (vE c1 d' (List.mem_of_getElem? e1)) c2 (by have:=hr.units;show X.A.units + 1 + _ < _;omega)
 let E:Value->Bool:=fun w=>decide (∃ (j:Nat) (d':PyData),ds[j]?=some d'/\its[j]?=some w/\PyData.eqv d' d=true)
 have hE:∀ (m:Nat) (d':PyData) (w:Value),ds[m]?=some d'->its[m]?=some w->E w=PyData.eqv d' d:=fun m d' w e1 e2=>by
  obtain ⟨as,ra⟩:=cP.at I hds r m d' w e1 e2
  cases hv:PyData.eqv d' d with
  | true=>exact decide_eq_true ⟨m,d',e1,e2,hv⟩
  | false =>
   refine decide_eq_false ?_
   rintro ⟨i,d2,e3,e4,e5⟩
   obtain ⟨as2,ra2⟩:=cP.at I hds r i d2 w e3 e4
   have:=SeqAt.Reads.unique d' d2 w as as2 (vE c1 d' (List.mem_of_getElem? e1)) ra ra2
   subst this
   rw [hv] at e5;cases e5
 have hj:j < ds.length:=(List.getElem?_eq_some_iff.mp he1).1
 have hji:j < its.toArray.size:=by rw [List.size_toArray];omega
 have at_:∀ (m:Nat) (hm:m < its.toArray.size),its[m]?=some its.toArray[m]:=fun m hm=>by
  have hm':m < its.length:=by simpa using hm
  rw [List.getElem?_eq_getElem hm'];simp
 refine call_meets F.slot_list_index ⟨_,ho,rfl⟩ F.entry_list_index (F.args_list_index_2 _ _)
  (SeqAt.list_indexAt p its.toArray n dd sl u E j hji (by have:=pR;have:=r.length;omega) (by rw [hE j e _ he1 (at_ j hji)];exact he2) (fun m hm hmj=>?_)) ⟨ho,fun w hw=>?_,?_⟩
 ·have hx:ds[m]?=some ds[m]:=by simp [show m < ds.length by rw [List.size_toArray] at hm;omega]
  rw [hE m _ _ hx (at_ m hm)]
  exact hno m _ hmj hx
 ·have hw':w∈its:=by simpa using hw
  obtain ⟨m,hm⟩:=List.getElem?_of_mem hw'
  have hml:m < ds.length:=by rw [hl];exact (List.getElem?_eq_some_iff.mp hm).1
  have hx:ds[m]?=some ds[m]:=List.getElem?_eq_getElem hml
  rw [hE m _ _ hx hm]
  exact key m _ _ hx hm
 ·exact ⟨.int j,H,I.tok _,⟨_,rfl⟩,q⟩
def AJ:U->List U->aF->UK->Prop:=fun x ws M Q=>∃ us w ds d j,view M x=.lst us/\ws=[w]/\dY us=some ds/\qQ M w=some d/\PyData.canLayAll0 ds=true/\d.canLay0=true/\d.depth<=60 /\
 (∃ e,ds[j]?=some e/\PyData.eqv e d=true)/\(∀ m e,m < j->ds[m]?=some e->PyData.eqv e d=false)/\Q (.int (j:Nat)) M
theorem Gi {K:PySem.W.Frag}:u2 K (EL K) AJ:=fun x xs u us H M Q' rm ru rus h Q c=>by
 obtain ⟨ws,w,ds,d,j,e,rfl,e2,e3,c1,c2,hdep,h1,h2,q⟩:=h
 obtain ⟨a,vs,rfl,s2,r2⟩:=eW rm ru e
 obtain ⟨v,rfl,a1⟩:=rus.one
 exact ⟨a,vs,v,ds,d,j,rfl,rfl,s2,m9 r2 e2,rU rm a1 e3,c1,c2,hdep,h1,h2,c.here rm dE q⟩
theorem AO {D:Dat} {o e:Expr} {ta:UE} {tas:UA} {pos apos:Pos} (ho:aY D o ta) (ha:kQ D [e] tas) (hbase:∀ env,attributeBase o "index" env (eval o env)=eval o env:=by intro _;rfl)
  (hfew:∀ env,((backTo pos (starEach [e] env)).all (fun x=>!x.1) && (backToKw pos (keywordEach [] env)).all (fun x=>x.1.isSome) && decide ([e].length + ([]:List Keyword).length + (if ([]:List Keyword).isEmpty then 0 else 1) < 30))=true:=by intro _;rfl)
  (hline:(apos.endLine == pos.line)=true:=by rfl) (hs:∀ env,starEach [e] env=[(false,eval e env)]:=by intro _;rfl):aY D (.Call (.Attribute o "index" apos) [e] [] pos) (Bd AJ ta tas):=by
 obtain ⟨_,p,s⟩:=ho;obtain ⟨_,q,r⟩:=ha
 refine ⟨_,fun X h=>?_,CW Gi s r⟩
 have:=FR (cpos:=pos) (apos:=apos) PySem.F.plainAttrs_list PySem.F.slot_list_index PySem.F.type_list_index (G8 h.room) (p X h) (q X h) (hbase _) (hfew _) hline (hs _) (by rfl)
 rw [h.K] at this
 exact this
end U2
namespace U2
open PySem PySem.Spec PyProof.Rows L2
theorem t7 {o:Bool} {k:Nat} {ix:List Nat} {wi:UI} {g:UG} {tc:UT} {te:UE} {τ:SU} {M M1:aF} {Q:UK} {S:Src} (zs:List (Option U)) (hw:∀ R:Src->aF->Prop,R S M1->wi τ M R) (hl:zs.length=S.xs.length) (hz:S.xs.length<=sizeLine) (hs:S.ok M1)
  (h:∀ (i:Nat) x z,S.xs[i]?=some x->zs[i]?=some z->∀ M,Sub M1 M->∀ R:Option U->aF->Prop,R z M->g x (fG k ix τ) M fun τ2 M2=>tc τ2 M2 fun ok M3=>if ok=true then te τ2 M3 fun y M4=>R (some y) M4 else R none M3)
  (q:iH o (zs.filterMap id) M1 Q):tM o k ix wi g tc te τ M Q:=by
 refine hw _ ⟨hz,fun D hD=>⟨fun i ys M=>ys=(zs.take i).filterMap id/\M=mup M1 D (.lst ys)/\i<=S.xs.length,⟨by simp,rfl,Nat.zero_le _⟩,?_,?_,?_⟩⟩
 ·rintro i ys M ⟨rfl,rfl,hi⟩
  refine ⟨fun a e=>?_,aD,?_⟩
  ·have:=hs a e
   rw [aG (fun z=>by subst z;rw [hD] at this;cases this)]
   exact this
  ·refine Nat.le_trans (List.length_filterMap_le _ _) ?_
   rw [List.length_take];omega
 ·rintro i x ys M e ⟨rfl,rfl,hi⟩
  have hlt:i < S.xs.length:=(List.getElem?_eq_some_iff.mp e).1
  have hy:zs[i]?=some zs[i]:=by simp [show i < zs.length by omega]
  have tk:zs.take (i + 1)=zs.take i++[zs[i]]:=by rw [List.take_add_one,hy];rfl
  generalize hzi:zs[i]=z at hy tk
  refine h i x z e hy (mup M1 D (.lst ((zs.take i).filterMap id))) ((Sub.refl M1).mup hD) (fun r M4=>match r with
   | some y=>M4 D=some (.lst ((zs.take i).filterMap id))/\((zs.take i).filterMap id++[y]=(zs.take (i + 1)).filterMap id/\mup M4 D (.lst ((zs.take i).filterMap id++[y]))=mup M1 D (.lst ((zs.take i).filterMap id++[y]))/\i + 1<=S.xs.length)
   | none=>(zs.take i).filterMap id=(zs.take (i + 1)).filterMap id/\M4=mup M1 D (.lst ((zs.take i).filterMap id))/\i + 1<=S.xs.length) ?_
  cases z with
  | some y=>exact ⟨aD,by rw [tk,List.filterMap_append];rfl,aV,hlt⟩
  | none=>exact ⟨by rw [tk,List.filterMap_append];simp,rfl,hlt⟩
 ·rintro ys M ⟨rfl,rfl,hi⟩
  rw [show zs.take S.xs.length=zs by rw [<- hl];exact List.take_length]
  cases o with
  | true=>exact q D hD
  | false=>exact ⟨M1,(Sub.refl M1).mup hD,hD,q⟩
theorem HM {τ:SU} {M M1:aF} {i:Nat} {a:Addr} {u:U} (hs:Sub M M1) (hr:∀ K H,RelM K H M1->aR H M1 H M->aM K H M u (.ref a)) (ht:τ[i]?=some (some (.ref a))):Cv τ M1 (τ.set i (some u)) M:=by
 intro K H σ rm rs
 have st:aR H M1 H M:=hs.less
 refine ⟨st,rm.sub hs,?_⟩
 obtain ⟨v,hv,rv⟩:=rs.2 i _ ht
 cases rv.ref
 have e:σ.set i (some (.ref a))=σ:=by
  refine List.ext_getElem? fun j=>?_
  rw [List.getElem?_set]
  split
  ·rename_i h;subst h
   rw [hv]
   split
   ·rfl
   ·rename_i h2
    have:=(List.getElem?_eq_some_iff.mp hv).1
    exact absurd this h2
  ·rfl
 have r:=(rs.stp st).set (i:=i) (hr K H rm st)
 rw [e] at r
 exact r
theorem Po {τ:SU} {M M1:aF} {x C dx:Addr} {fs fs':List (Str × U)} (hx:M1 x=some (.ins C dx fs)) (hs:∀ b mo,b≠x->M b=some mo->M1 b=some mo)
  (hr:∀ (K:PySem.W.Frag) (H:Hp) (ws:List (Str × V)),RelM K H M1->aR H M1 H (mup M x (.ins C dx fs'))->bJ K H M1 fs ws->bJ K H (mup M x (.ins C dx fs')) fs' ws):Cv τ M1 τ (mup M x (.ins C dx fs')):=by
 intro K H σ rm rs
 have st:aR H M1 H (mup M x (.ins C dx fs')):=aR.less fun b e=>by
  by_cases hb:b=x
  ·subst hb;rw [hx] at e;cases e
  ·rw [aG hb]
   cases q:M b with
   | none=>rfl
   | some mo=>rw [hs b mo hb q] at e;cases e
 refine ⟨st,fun a mo e=>?_,rs.stp st⟩
 by_cases ha:a=x
 ·subst ha
  rw [aD] at e;cases e
  obtain ⟨ws,h1,h2⟩:=rm a _ hx
  exact ⟨ws,h1,hr K H ws rm st h2⟩
 ·rw [aG ha] at e
  refine (rm a mo (hs a mo ha e)).stp (fun b q z=>?_) st rfl
  by_cases hb:b=x
  ·subst hb;rw [aD] at z;cases z
  ·rw [aG hb] at z;exact hs b _ hb z
end U2
namespace U2
open PySem PySem.Spec PyProof.Rows L2
open AutoSeq1 (wpAny_loadPart')
open MeetsSeq MeetsSeq2 MeetsSeq3 SeqRoads2
theorem BF (l:Addr) (items:Array Value) (n:Nat) (dd:Option Addr) (sl:Array (Option Value)) (x:Value) (e:Value->Bool) (j:Nat) (hj:j < items.size) (hit:e items[j]=true) (hno:∀ m (hm:m < items.size),m < j->e items[m]=false) :
  Meets (Builtin.«tuple.index» ⟨[.ref l,x],[]⟩)
   (fun A R s=>s.heap.get? l=some { cls:=.type "tuple",dict:=dd,data:=.seq items n,slots:=sl }/\(∀ y,y∈items->SeqAt.EqAt A.in1 s y x (e y))/\R (.ok (.ret (.int j s.toks))) { s with toks:=s.toks + 1 }) :=
 .of_wp fun prog w A R s h=>by
  obtain ⟨hp,g,d,tk,os⟩:=s;obtain ⟨hl,he,h⟩:=h
  wp_walk using wpAny_loadPart' hl
  change wpAny (model prog w) A.in1 (forIn [:min items.size items.size] ((none,()):Option Fin × Unit) (fun (i:Nat) (_:Option Fin × Unit)=>(match items[i]? with
   | some y=>(do
     let b <- eqBool y x
     if b=true then (do
      let r <- retInt (i:Int)
      pure (ForInStep.done ((some r,()):Option Fin × Unit)))
     else pure (ForInStep.yield ((none,()):Option Fin × Unit)))
   | _=>pure (ForInStep.yield ((none,()):Option Fin × Unit)):Sem (ForInStep (Option Fin × Unit))))) _ _ _
  rw [Std.Legacy.Range.forIn_eq_forIn_range']
  simp only [Std.Legacy.Range.size,Nat.sub_zero,Nat.add_sub_cancel,Nat.div_one,Nat.min_self]
  refine wpAny_forIn_list _ (fun rest b s'=>b.1=none/\s'=⟨hp,g,d,tk,os⟩/\∃ i,i<=j/\rest=List.range' i (items.size - i)) _ ?_ ?_ _ _ ⟨rfl,rfl,0,Nat.zero_le _,by simp⟩
  ·rintro y rest b s' ⟨hb,rfl,i,hi,hr⟩
   have hlt:i < items.size:=by omega
   obtain ⟨rfl,hrest⟩:y=i/\rest=List.range' (i + 1) (items.size - (i + 1)):=by
    have e:items.size - i=(items.size - (i + 1)) + 1:=by omega
    rw [e,List.range'_succ] at hr
    injection hr with h1 h2
    exact ⟨h1,h2⟩
   rw [Array.getElem?_eq_getElem hlt]
   refine wpAny_bind (he _ (Array.getElem_mem hlt) prog w _ _ ?_)
   by_cases hij:y=j
   ·subst hij
    rw [hit]
    wp_walk
    exact ⟨_,rfl,h⟩
   ·rw [hno y hlt (by omega)]
    wp_walk
    exact ⟨rfl,rfl,y + 1,by omega,hrest⟩
  ·rintro b s' ⟨hb,rfl,i,hi,hr⟩
   have:items.size - i=0:=by
    have:=congrArg List.length hr
    simp at this;omega
   omega
def EB (K:PySem.W.Frag):V->List V->Hp->VK->Prop:=fun x vs H Q=>∃ p xs y j,x=.ref p/\vs=[y]/\eP K H p xs/\L2.iG y=true/\xs.all L2.iG=true/\(∃ z,xs[j]?=some z/\qM z y=true)/\(∀ m z,m < j->xs[m]?=some z->qM z y=false)/\Q (.int (j:Nat)) H
theorem HU {X:Cx}:LO X "tuple.index" (EB X.K):=by
 intro pins s σ H x vs v us Q I rx rv h
 obtain ⟨p,xs,y,j,rfl,rfl,hq,fy,fs,⟨z,hz1,hz2⟩,hno,q⟩:=h
 cases rx
 obtain ⟨u,rfl,ru⟩:=rv.one
 obtain ⟨its,r,pl,hz⟩:=I.tupleP hq
 obtain ⟨⟨cls,dd,data,sl⟩,ho,hc,_,n,hd⟩:=pl
 simp only at hc hd
 subst hc hd
 have hl:=r.length
 have hj:j < xs.length:=(List.getElem?_eq_some_iff.mp hz1).1
 have hji:j < its.toArray.size:=by rw [List.size_toArray];omega
 have at_:∀ (m:Nat) (hm:m < its.toArray.size) z,xs[m]?=some z->oM y its.toArray[m]=qM z y:=fun m hm z e=>by
  obtain ⟨w',h1,h2⟩:=r.get e
  have:its.toArray[m]=w':=by
   have h3:its[m]?=some w':=h1
   have hm':m < its.length:=by simpa using hm
   rw [List.getElem?_eq_getElem hm'] at h3
   simpa using Option.some.inj h3
  rw [this]
  exact C1 h2 (by
   have:=List.all_eq_true.mp fs z (List.mem_of_getElem? e)
   exact this)
 refine call_meets F.slot_tuple_index ⟨_,ho,rfl⟩ F.entry_tuple_index (F.args_tuple_index_2 _ _)
  (BF p its.toArray n dd sl u (oM y) j hji (by rw [at_ j hji z hz1];exact hz2) (fun m hm hmj=>?_)) ⟨ho,fun w' hw=>nD ru fy r fs w' (by simpa using hw),?_⟩
 ·have hx:xs[m]?=some xs[m]:=by simp [show m < xs.length by omega]
  rw [at_ m hm _ hx]
  exact hno m _ hmj hx
 ·exact ⟨.int j,H,I.tok _,⟨_,rfl⟩,q⟩
def Px (K:PySem.W.Frag) (r:V->List V->Hp->VK->Prop) (to:TE) (t:TA):TE:=fun σ H Q=>to σ H fun x H1=>(∃ a xs,x=.ref a/\eP K H1 a xs)/\t σ H1 fun xs H2=>r x xs H2 Q
theorem Pn {X:Cx} {o e:Expr} {es:List Expr} {to:TE} {t:TA} {name:Str} {apos cpos:Pos} {id:String} {r:V->List V->Hp->VK->Prop} (pa:PlainAttrs "tuple") (slot:Slot "tuple" name id) (hty:typeOf (.builtin id)=pure (.type "method_descriptor")) (hm:RA X id r) (ho:PE X o to) (ha:PA X (e :: es) t)
  (hbase:attributeBase o name X.env (eval o X.env)=eval o X.env)
  (hfew:((backTo cpos (starEach (e :: es) X.env)).all (fun x=>!x.1) && (backToKw cpos (keywordEach [] X.env)).all (fun x=>x.1.isSome)
   && decide ((e :: es).length + ([]:List Keyword).length + (if ([]:List Keyword).isEmpty then 0 else 1) < 30))=true)
  (hline:(apos.endLine == cpos.line)=true) (hs:starEach (e :: es) X.env=(false,eval e X.env) :: starEach es X.env) (hplain:(backTo cpos (starEach es X.env)).any (·.1)=false) :
  PE X (.Call (.Attribute o name apos) (e :: es) [] cpos) (Px X.K r to t):=by
 intro pins s σ H Q I h
 refine wpAny_Call_method_late hbase hfew hline rfl (bI (ho pins s σ H _ I h) fun v s1 ⟨x,H1,I1,r1,⟨a,xs,e1,sq⟩,q1⟩=>?_)
 subst e1
 cases r1
 obtain ⟨its,_,⟨ob,g1,g2,g3,_⟩,_⟩:=I1.tupleP sq
 refine ⟨"tuple",id,pa,slot,hty,⟨ob,g1,g2⟩,(fun b eb=>by cases eb;exact ⟨ob,g1,g3⟩),?_⟩
 have hA:=ha cpos pins s1 σ H1 _ I1 q1
 rw [hs] at hA ⊢
 refine Calls.callWith_builtin (by show (false || (backTo cpos (starEach es X.env)).any (·.1))=false;rw [hplain] <;> rfl) (Calls.evalArgs_plain ?_)
 exact bI hA fun us s2 ⟨vs,H2,I2,r2,q2⟩=>hm pins s2 σ H2 (.ref a) vs (.ref a) us Q I2 rfl r2 q2
def Su (x:U):Prop:=∃ us,x=.tup us
def w4 (r:U->List U->aF->UK->Prop) (to:UE) (t:UA):UE:=fun τ M Q=>to τ M fun x M1=>Su x/\t τ M1 fun xs M2=>r x xs M2 Q
theorem Nf {K:PySem.W.Frag} {r:V->List V->Hp->VK->Prop} {r':U->List U->aF->UK->Prop} {to:TE} {to':UE} {t:TA} {t':UA} (hr:u2 K r r') (ho:bS K to to') (h:jK K t t') :
  bS K (Px K r to t) (w4 r' to' t'):=fun σ τ H M Q' rs rm q Q c =>
 ho σ τ H M _ rs rm q _ fun u v M1 H1 s1 rm1 ru h1=>by
  obtain ⟨⟨us,rfl⟩,h1⟩:=h1
  obtain ⟨a,vs,rfl,sq,_⟩:=ru.tup
  exact ⟨⟨a,vs,rfl,sq⟩,h σ τ H1 M1 _ (rs.stp s1) rm1 h1 _ fun us' vs' M2 H2 s2 rm2 rus h2=>hr _ vs' _ us' H2 M2 Q' rm2 (ru.stp s2) rus h2 Q (dH.stp c (s1.trans s2))⟩
def vF:U->List U->aF->UK->Prop:=fun x ws M Q=>match x,ws with
 | .tup us,[.str w]=>∃ (ss:List Str) (j:Nat),tJ us=some ss/\ss[j]?=some w/\(∀ m z,m < j->ss[m]?=some z->z≠w)/\Q (.int (j:Nat)) M
 | _,_=>False
theorem Fw {K:PySem.W.Frag}:u2 K (EB K) vF:=fun x xs u us H M Q' rm ru rus h Q c=>by
 unfold vF at h
 split at h
 ·rename_i ws w
  obtain ⟨ss,j,h1,h2,h3,h4⟩:=h
  obtain ⟨a,vs,rfl,s2,r2⟩:=ru.tup
  rw [Bb r2 h1] at s2
  obtain ⟨v,rfl,a1⟩:=rus.one
  cases a1.str
  refine ⟨a,_,_,j,rfl,rfl,s2,rfl,by simp [L2.iG],⟨.str w,by rw [List.getElem?_map,h2];rfl,by simp [qM]⟩,fun m z hm hz=>?_,c.here rm dE h4⟩
  rw [List.getElem?_map] at hz
  cases e3:ss[m]? with
  | none=>rw [e3] at hz;cases hz
  | some y =>
   rw [e3] at hz
   cases hz
   have:=h3 m y hm e3
   simp [qM,this]
 ·exact h.elim
theorem lX {D:Dat} {o e:Expr} {ta:UE} {tas:UA} {pos apos:Pos} (ho:aY D o ta) (ha:kQ D [e] tas) (hbase:∀ env,attributeBase o "index" env (eval o env)=eval o env:=by intro _;rfl)
  (hfew:∀ env,((backTo pos (starEach [e] env)).all (fun x=>!x.1) && (backToKw pos (keywordEach [] env)).all (fun x=>x.1.isSome) && decide ([e].length + ([]:List Keyword).length + (if ([]:List Keyword).isEmpty then 0 else 1) < 30))=true:=by intro _;rfl)
  (hline:(apos.endLine == pos.line)=true:=by rfl) (hs:∀ env,starEach [e] env=[(false,eval e env)]:=by intro _;rfl):aY D (.Call (.Attribute o "index" apos) [e] [] pos) (w4 vF ta tas):=by
 obtain ⟨_,p,s⟩:=ho;obtain ⟨_,q,r⟩:=ha
 refine ⟨_,fun X h=>?_,Nf Fw s r⟩
 have:=Pn (cpos:=pos) (apos:=apos) PySem.F.plainAttrs_tuple PySem.F.slot_tuple_index PySem.F.type_tuple_index HU (p X h) (q X h) (hbase _) (hfew _) hline (hs _) (by rfl)
 rw [h.K] at this
 exact this
end U2
namespace U2
open PySem PySem.Spec PyProof.Rows L2
theorem FA (l:Addr) (items:Array Value) (n:Nat) (dd:Option Addr) (sl:Array (Option Value)) (u:Tok) :
  Meets (Builtin.«tuple.__mul__» ⟨[.ref l,.int 1 u],[]⟩) (fun _ R s=>s.heap.get? l=some { cls:=.type "tuple",dict:=dd,data:=.seq items n,slots:=sl }/\R (.ok (.ret (Value.ref l))) s) :=
 .of_wp fun prog w A R s h=>by
  obtain ⟨hp,g,d,tk,os⟩:=s;obtain ⟨hl,h⟩:=h
  wp_walk
  exact ⟨_,rfl,h⟩
def Jd (K:PySem.W.Frag):R2:=fun x y H Q=>∃ l xs,x=.ref l/\y=.int 1/\eP K H l xs/\Q (.ref l) H
theorem Kh {X:Cx}:dA X (binaryOp .Mult) (Jd X.K):=by
 intro pins s σ H x y v u Q I rx ry h
 obtain ⟨l,xs,rfl,rfl,hH,q⟩:=h
 cases rx
 obtain ⟨t,rfl⟩:=ry
 obtain ⟨its,r,p,hl'⟩:=I.tuple hH
 obtain ⟨⟨cls,dd,data,sl⟩,e,hc,n,hd⟩:=p
 simp only at hc hd
 subst hc hd
 exact wpAny_binaryOp_repeat_ref (T:="tuple") (U:="int") (by decide) ⟨_,e,rfl⟩ (fun s'=>typeIs_int s' 1 t) p8 F.fills_int_mul F.slot_int_rmul uN F.slot_int_index.lookup
  (call_meets F.slot_int_rmul (typeIs_int s 1 t) F.entry_int_rmul (F.args_int_rmul_2 _ _) (A3 1 t l its.toArray n dd sl)
   ⟨e,rfl,⟨_,e,rfl⟩,call_meets F.slot_tuple_mul ⟨_,e,rfl⟩ F.entry_tuple_mul (F.args_tuple_mul_2 _ _) (FA l its.toArray n dd sl t) ⟨e,⟨.ref l,H,I,rfl,q⟩⟩⟩)
def GP:dQ:=fun x y M Q=>match x,y with
 | .tup us,.int k=>1<=k/\k < 2 ^ 20/\us≠[]/\us.length * k.toNat<=sizeLine/\Q (.tup (List.replicate k.toNat us).flatten) M
 | _,_=>False
theorem Ox {D:Dat} {a b:Expr} {ta tb:UE} {pos:Pos} (ha:aY D a ta) (hb:aY D b tb):aY D (.BinOp a .Mult b pos) (mG GP ta tb) :=
 sS (r:=fun x y H Q=>FP D.K x y H Q\/Jd D.K x y H Q) (fun X h=>by have:=(NZ (X:=X)).or (Kh (X:=X));rw [h.K] at this;exact this) (fun x y u w H M Q' rm ru rw h Q c=>by
  unfold GP at h
  split at h
  ·rename_i us k
   obtain ⟨h1,h2,h3,h4,h5⟩:=h
   by_cases hk:k=1
   ·subst hk
    right
    have e:(List.replicate (Int.toNat 1) us).flatten=us:=by simp
    rw [e] at h5
    obtain ⟨a,vs,rfl,s2,r2⟩:=ru.tup
    cases rw.int
    exact ⟨a,vs,rfl,rfl,s2,c.here rm ru h5⟩
   ·exact .inl (JG x y _ _ H M Q' rm ru rw ⟨by omega,h2,h3,h4,h5⟩ Q c)
  ·exact h.elim) ha hb
end U2
namespace L2
open PySem
theorem Eu {q:List Value->Prop} (h:q []) (us:List Value) (e:us.length=0):q us:=by rw [List.length_eq_zero_iff.mp e];exact h
theorem kN {n:Nat} {q:List Value->Prop} (h:∀ x us,us.length=n->q (x :: us)) (us:List Value) (e:us.length=n + 1):q us:=by
 cases us with
 | nil=>cases e
 | cons x r=>exact h x r (Nat.succ.inj e)
abbrev Ar:=Value->Value->Value->Option Addr->Value->Value->List Value->Prop
theorem CO {p:Ar} (h:∀ a b c d e g x0,p a b c d e g [x0]) (a b c d e g):∀ us,us.length=1->p a b c d e g us:=kN fun x0=>Eu (h a b c d e g x0)
theorem t8 {p:Ar} (h:∀ a b c d e g x0 x1,p a b c d e g [x0,x1]) (a b c d e g):∀ us,us.length=2->p a b c d e g us:=kN fun x0=>kN fun x1=>Eu (h a b c d e g x0 x1)
theorem q9 {p:Ar} (h:∀ a b c d e g x0 x1 x2,p a b c d e g [x0,x1,x2]) (a b c d e g):∀ us,us.length=3->p a b c d e g us:=kN fun x0=>kN fun x1=>kN fun x2=>Eu (h a b c d e g x0 x1 x2)
theorem He {p:Ar} (h:∀ a b c d e g x0 x1 x2 x3,p a b c d e g [x0,x1,x2,x3]) (a b c d e g):∀ us,us.length=4->p a b c d e g us:=kN fun x0=>kN fun x1=>kN fun x2=>kN fun x3=>Eu (h a b c d e g x0 x1 x2 x3)
theorem SH {p:Ar} (h:∀ a b c d e g x0 x1 x2 x3 x4,p a b c d e g [x0,x1,x2,x3,x4]) (a b c d e g):∀ us,us.length=5->p a b c d e g us:=kN fun x0=>kN fun x1=>kN fun x2=>kN fun x3=>kN fun x4=>Eu (h a b c d e g x0 x1 x2 x3 x4)
theorem SK {p:Ar} (h:∀ a b c d e g x0 x1 x2 x3 x4 x5,p a b c d e g [x0,x1,x2,x3,x4,x5]) (a b c d e g):∀ us,us.length=6->p a b c d e g us:=kN fun x0=>kN fun x1=>kN fun x2=>kN fun x3=>kN fun x4=>kN fun x5=>Eu (h a b c d e g x0 x1 x2 x3 x4 x5)
end L2
namespace U2
open PySem PySem.Spec PyProof.Rows L2
theorem fS {N P:List Str} {sc:Scope} (a:sc.kind=.function:=by rfl) (b:sc.isCoroutine=false:=by rfl) (c:sc.isGenerator=false:=by rfl) (d:N.Nodup:=by decide +kernel) (e:N.take P.length=P:=by rfl) (f:∀ x∈P,sc.names.lookup x=some .local\/sc.names.lookup x=some .cell:=by decide +kernel) (g:∀ y∈sc.names,y.2≠.free:=by decide +kernel):bA N P sc:=⟨a,b,c,d,e,f,g⟩
theorem nk {xs:List U} {I:Nat->SU->aF->Prop}:∀ i τ M,I i τ M->(Src.mk none xs).ok M:=fun _ _ _ _ _ e=>nomatch e
theorem bP {P:Program} {w:World} {K:PySem.W.Frag} {mg:Str->Option Value} {base:Heap} {x:Str} {st:Stmt} {f:Addr} {fd:FuncData} {N ps:List Str} {k:Nat} {sp:bG} {t:US} (F:cK K x x st f fd) (hm:mg x=some (.ref f)) (S:bA N ps (aH st))
  (bind:∀ (kV doc pm:Value) (an:Option Addr) (cdv ct:Value) (us:List Value),us.length=ps.length->bindArgs (PySem.W.fnOf x x (aZ st) (aT st) (aH st) .none kV doc pm an cdv ct) ⟨us,[]⟩=pure (ps.zip us))
  (h:mS ⟨P,w,K,mg,base,N,aH st,k,true,.none,""⟩ (aT st) t)
  (q:∀ us M Q,sp us M Q->us.length=ps.length/\t { nx:=fun _ M'=>jF Q .non M',rt:=jF Q } (eS N us) M):Callee P w K mg base (k + 1) x sp [] :=
 Hm F hm S bind (fun us M Q hs=>(q us M Q hs).1) h (fun us M Q hs=>(q us M Q hs).2)
end U2
namespace K50
open PySem L2 U2
def top (i:Nat):Stmt:=PySem.Challenge.pw_rowsmith_k50_whole_longer_fronts_cost_no.main.body.getD i (.Pass ⟨0,0,0,0⟩)
abbrev j7:Stmt:=top 2
theorem DM:bA ["shape"] ["shape"] (aH j7):=fS
abbrev hJ:Stmt:=top 3
theorem m8:bA ["shape","found","number","part"] ["shape"] (aH hJ):=fS
abbrev kC:Stmt:=top 4
theorem oB:bA ["shape","place","here","number"] ["shape","place"] (aH kC):=fS
abbrev iZ:Stmt:=top 5
theorem DU:bA ["shape","of_leaf","of_sign"] ["shape","of_leaf","of_sign"] (aH iZ):=fS
abbrev fZ:Stmt:=top 6
theorem yL:bA ["pattern","tree"] ["pattern","tree"] (aH fZ):=fS
abbrev lS:Stmt:=top 7
theorem Fv:bA ["tile"] ["tile"] (aH lS):=fS
abbrev iT:Stmt:=top 8
theorem jE:bA ["table","found","tile","inner","piece"] ["table"] (aH iT):=fS
abbrev pF:Stmt:=top 10
theorem Lr:bA ["numbers","at","number"] ["numbers","at","number"] (aH pF):=fS
abbrev iL:Stmt:=top 11
theorem cZ:bA ["table","classes","steps","found","start","prices","step","ahead","to","price"] ["table"] (aH iL):=fS
abbrev gP:Stmt:=top 12
theorem iM:bA ["wiring","prices","found","ahead","to","price"] ["wiring","prices"] (aH gP):=fS
abbrev gL:Stmt:=top 13
theorem iK:bA ["wiring","leaf","found","column","price","pattern"] ["wiring","leaf"] (aH gL):=fS
abbrev gM:Stmt:=top 14
theorem gB:bA ["wiring","word","parts","sums","column","price","draws","drawn"] ["wiring","word","parts"] (aH gM):=fS
abbrev eU:Stmt:=top 15
theorem iA:bA ["wiring","word","sums","found","rule","drawn"] ["wiring","word","sums"] (aH eU):=fS
abbrev fY:Stmt:=top 17
theorem qD:bA ["wiring","leaf","labels","label"] ["wiring","leaf","labels"] (aH fY):=fS
abbrev eE:Stmt:=top 18
theorem tQ:bA ["wiring","tree","labels","prices"] ["wiring","tree","labels"] (aH eE):=fS
abbrev iR:Stmt:=top 19
theorem kW:bA ["table","web","wiring","found","tree"] ["table","web"] (aH iR):=fS
abbrev pH:Stmt:=top 21
theorem Lf:bA ["numbers"] ["numbers"] (aH pH):=fS
abbrev iJ:Stmt:=top 22
theorem tU:bA ["wiring","kept","prices"] ["wiring","kept"] (aH iJ):=fS
abbrev fK:Stmt:=top 23
theorem pT:bA ["wiring","state","own","kept","cost"] ["wiring","state","own","kept"] (aH fK):=fS
abbrev gQ:Stmt:=top 24
theorem nH:bA ["wiring","state","goals","labels","reached"] ["wiring","state","goals"] (aH gQ):=fS
abbrev gN:Stmt:=top 25
theorem gA:bA ["table","web","goals","front","wiring","state","tree","kept"] ["table","web","goals","front"] (aH gN):=fS
abbrev jY:Stmt:=top 27
theorem kO:bA ["script","k","cell","digits"] ["script","k"] (aH jY):=fS
abbrev j8:Stmt:=top 28
theorem wH:bA ["feed","many","found"] ["feed","many"] (aH j8):=fS
abbrev iP:Stmt:=top 29
theorem eO:bA ["feed","many","letters","filler","first","step","size","place","back"] ["feed","many"] (aH iP):=fS
abbrev QO:Stmt:=top 30
abbrev g0:Stmt:=top 31
theorem mF:bA ["feed","classes","deep","way","low","sign"] ["feed","classes","deep"] (aH g0):=fS
abbrev gK:Stmt:=top 32
theorem kD:bA ["feed","classes","cls","way","others","sign"] ["feed","classes","cls"] (aH gK):=fS
abbrev jH:Stmt:=top 33
theorem cT:bA ["feed","most","classes","many","names","skipped","tiles","k","cls","fee","pattern"] ["feed","most"] (aH jH):=fS
abbrev i7:Stmt:=top 34
theorem oA:bA ["feed","names","deep","number","way","leaf","sign"] ["feed","names","deep","number"] (aH i7):=fS
abbrev lR:Stmt:=top 35
theorem yF:bA ["feed","many","deep","names"] ["feed","many","deep"] (aH lR):=fS
abbrev jI:Stmt:=top 36
theorem mC:bA ["feed","table","web","goals","k","number"] ["feed","table","web"] (aH jI):=fS
abbrev pB:Stmt:=top 37
theorem gD:bA ["script","k","table","feed","web","goals","some","front","last","size","fee","told_labels","due"] ["script"] (aH pB):=fS
abbrev gR:Stmt:=(match top 9 with | .ClassDef _ _ _ b _ _ _ _ _ _ _=>b | _=>[]).getD 0 (.Pass ⟨0,0,0,0⟩)
theorem j0:bA ["self","table","word","tile","part"] ["self","table"] (aH gR):=fS
abbrev gO:Stmt:=(match top 9 with | .ClassDef _ _ _ b _ _ _ _ _ _ _=>b | _=>[]).getD 1 (.Pass ⟨0,0,0,0⟩)
theorem nK:bA ["self","column","price","pattern","number","draws"] ["self","column","price","pattern"] (aH gO):=fS
inductive Op where
 | sum | less | by_
def Op.word:Op->Str
 | .sum=>"sum" | .less=>"less" | .by_=>"by"
inductive Tr where
 | num (n:Int) | name (x:Str) | turn (a:Tr) | two (o:Op) (a b:Tr)
def Tr.toU:Tr->U
 | .num n=>.tup [.str "num",.int n]
 | .name x=>.tup [.str "name",.str x]
 | .turn a=>.tup [.str "turn",a.toU]
 | .two o a b=>.tup [.str o.word,a.toU,b.toU]
def Tr.ok:Tr->Prop
 | .num _=>True
 | .name x=>PyData.strOk x=true/\x.length<=100
 | .turn a=>a.ok
 | .two _ a b=>a.ok/\b.ok
def Tr.dep:Tr->Nat
 | .num _=>1
 | .name _=>1
 | .turn a=>a.dep + 1
 | .two _ a b=>max a.dep b.dep + 1
inductive Pt where
 | hole (c:Str) | any | fr (l h:Int) | turn (a:Pt) | two (o:Op) (a b:Pt)
def Pt.toU:Pt->U
 | .hole c=>.tup [.str "at",.str c]
 | .any=>.tup [.str "any"]
 | .fr l h=>.tup [.str "from",.int l,.int h]
 | .turn a=>.tup [.str "turn",a.toU]
 | .two o a b=>.tup [.str o.word,a.toU,b.toU]
def Pt.ok:Pt->Prop
 | .hole c=>PyData.strOk c=true
 | .any=>True
 | .fr l h=>0<=l/\l<=h
 | .turn a=>a.ok
 | .two _ a b=>a.ok/\b.ok
def Pt.dep:Pt->Nat
 | .hole _=>1
 | .any=>1
 | .fr _ _=>1
 | .turn a=>a.dep + 1
 | .two _ a b=>max a.dep b.dep + 1
def Pt.holes:Pt->Nat
 | .hole _=>1
 | .any=>0
 | .fr _ _=>0
 | .turn a=>a.holes
 | .two _ a b=>a.holes + b.holes
def Pt.leafy:Pt->Bool
 | .turn _=>false
 | .two _ _ _=>false
 | _=>true
def Pt.ends:Pt->List Pt
 | .turn a=>a.ends
 | .two _ a b=>a.ends++b.ends
 | p=>[p]
instance:DecidableEq Op:=fun a b=>by cases a <;> cases b <;> first | exact isTrue rfl | exact isFalse (fun h=>nomatch h)
def rV:Pt->Tr->Bool
 | .hole _,_=>true
 | .any,.name _=>true
 | .any,_=>false
 | .fr l h,.num n=>decide (l<=n) && decide (n<=h)
 | .fr _ _,_=>false
 | .turn p,.turn a=>rV p a
 | .turn _,_=>false
 | .two o p q,.two o' a b=>decide (o=o') && (rV p a && rV q b)
 | .two _ _ _,_=>false
def cR:List (Str × Fl):=[("turn",.int 1),("sum",.int 2),("less",.int 2),("by",.int 2)]
theorem rZ (x y:Str):(x++y).cps.toList=x.cps.toList++y.cps.toList:=by
 show (x.cps++y.cps).toList=_
 simp
theorem small {n:Nat} (h:n<=100000):n<=sizeLine:=Nat.le_trans h (by decide)
theorem Mj {n:Nat} (h:n<=100000):(n<=sizeLine)=True:=eq_true (small h)
theorem KA:(Str.ofString "at"=Str.ofString "any")=False:=eq_false (by decide +kernel)
theorem Iu:(Str.ofString "at"=Str.ofString "from")=False:=eq_false (by decide +kernel)
theorem Ie:(Str.ofString "at"=Str.ofString "turn")=False:=eq_false (by decide +kernel)
theorem Ly:(Str.ofString "at"=Str.ofString "num")=False:=eq_false (by decide +kernel)
theorem G5:(Str.ofString "at"=Str.ofString "name")=False:=eq_false (by decide +kernel)
theorem K1:(Str.ofString "any"=Str.ofString "at")=False:=eq_false (by decide +kernel)
theorem GZ:(Str.ofString "any"=Str.ofString "from")=False:=eq_false (by decide +kernel)
theorem GH:(Str.ofString "any"=Str.ofString "turn")=False:=eq_false (by decide +kernel)
theorem Hs:(Str.ofString "any"=Str.ofString "num")=False:=eq_false (by decide +kernel)
theorem G2:(Str.ofString "any"=Str.ofString "name")=False:=eq_false (by decide +kernel)
theorem HJ:(Str.ofString "from"=Str.ofString "at")=False:=eq_false (by decide +kernel)
theorem F0:(Str.ofString "from"=Str.ofString "any")=False:=eq_false (by decide +kernel)
theorem DV:(Str.ofString "from"=Str.ofString "turn")=False:=eq_false (by decide +kernel)
theorem Fz:(Str.ofString "from"=Str.ofString "num")=False:=eq_false (by decide +kernel)
theorem DE:(Str.ofString "from"=Str.ofString "name")=False:=eq_false (by decide +kernel)
theorem IV:(Str.ofString "turn"=Str.ofString "at")=False:=eq_false (by decide +kernel)
theorem GU:(Str.ofString "turn"=Str.ofString "any")=False:=eq_false (by decide +kernel)
theorem DG:(Str.ofString "turn"=Str.ofString "from")=False:=eq_false (by decide +kernel)
theorem E4:(Str.ofString "turn"=Str.ofString "num")=False:=eq_false (by decide +kernel)
theorem DJ:(Str.ofString "turn"=Str.ofString "name")=False:=eq_false (by decide +kernel)
theorem Jy:(Str.ofString "num"=Str.ofString "at")=False:=eq_false (by decide +kernel)
theorem Ik:(Str.ofString "num"=Str.ofString "any")=False:=eq_false (by decide +kernel)
theorem F6:(Str.ofString "num"=Str.ofString "from")=False:=eq_false (by decide +kernel)
theorem Gj:(Str.ofString "num"=Str.ofString "turn")=False:=eq_false (by decide +kernel)
theorem FJ:(Str.ofString "num"=Str.ofString "name")=False:=eq_false (by decide +kernel)
theorem ID:(Str.ofString "name"=Str.ofString "at")=False:=eq_false (by decide +kernel)
theorem Fh:(Str.ofString "name"=Str.ofString "any")=False:=eq_false (by decide +kernel)
theorem D4:(Str.ofString "name"=Str.ofString "from")=False:=eq_false (by decide +kernel)
theorem D7:(Str.ofString "name"=Str.ofString "turn")=False:=eq_false (by decide +kernel)
theorem GC:(Str.ofString "name"=Str.ofString "num")=False:=eq_false (by decide +kernel)
theorem PM (o:Op):(o.word=Str.ofString "at")=False:=eq_false (by cases o <;> decide +kernel)
theorem NU (o:Op):(o.word=Str.ofString "any")=False:=eq_false (by cases o <;> decide +kernel)
theorem JA (o:Op):(o.word=Str.ofString "from")=False:=eq_false (by cases o <;> decide +kernel)
theorem JQ (o:Op):(o.word=Str.ofString "turn")=False:=eq_false (by cases o <;> decide +kernel)
theorem OB (o:Op):(o.word=Str.ofString "num")=False:=eq_false (by cases o <;> decide +kernel)
theorem JM (o:Op):(o.word=Str.ofString "name")=False:=eq_false (by cases o <;> decide +kernel)
theorem O8 (o:Op):(Str.ofString "at"=o.word)=False:=eq_false (by cases o <;> decide +kernel)
theorem MK (o:Op):(Str.ofString "any"=o.word)=False:=eq_false (by cases o <;> decide +kernel)
theorem Kr (o:Op):(Str.ofString "from"=o.word)=False:=eq_false (by cases o <;> decide +kernel)
theorem J0 (o:Op):(Str.ofString "turn"=o.word)=False:=eq_false (by cases o <;> decide +kernel)
theorem MN (o:Op):(Str.ofString "num"=o.word)=False:=eq_false (by cases o <;> decide +kernel)
theorem Kx (o:Op):(Str.ofString "name"=o.word)=False:=eq_false (by cases o <;> decide +kernel)
theorem tY:(Str.ofString "at"=Str.ofString "any")=False/\(Str.ofString "at"=Str.ofString "from")=False/\(Str.ofString "at"=Str.ofString "turn")=False/\(Str.ofString "at"=Str.ofString "num")=False/\(Str.ofString "at"=Str.ofString "name")=False/\(Str.ofString "any"=Str.ofString "at")=False:=⟨KA,Iu,Ie,Ly,G5,K1⟩
theorem tX:(Str.ofString "any"=Str.ofString "from")=False/\(Str.ofString "any"=Str.ofString "turn")=False/\(Str.ofString "any"=Str.ofString "num")=False/\(Str.ofString "any"=Str.ofString "name")=False/\(Str.ofString "from"=Str.ofString "at")=False/\(Str.ofString "from"=Str.ofString "any")=False:=⟨GZ,GH,Hs,G2,HJ,F0⟩
theorem uG:(Str.ofString "from"=Str.ofString "turn")=False/\(Str.ofString "from"=Str.ofString "num")=False/\(Str.ofString "from"=Str.ofString "name")=False/\(Str.ofString "turn"=Str.ofString "at")=False/\(Str.ofString "turn"=Str.ofString "any")=False/\(Str.ofString "turn"=Str.ofString "from")=False:=⟨DV,Fz,DE,IV,GU,DG⟩
theorem tW:(Str.ofString "turn"=Str.ofString "num")=False/\(Str.ofString "turn"=Str.ofString "name")=False/\(Str.ofString "num"=Str.ofString "at")=False/\(Str.ofString "num"=Str.ofString "any")=False/\(Str.ofString "num"=Str.ofString "from")=False/\(Str.ofString "num"=Str.ofString "turn")=False:=⟨E4,DJ,Jy,Ik,F6,Gj⟩
theorem t4:(Str.ofString "num"=Str.ofString "name")=False/\(Str.ofString "name"=Str.ofString "at")=False/\(Str.ofString "name"=Str.ofString "any")=False/\(Str.ofString "name"=Str.ofString "from")=False/\(Str.ofString "name"=Str.ofString "turn")=False/\(Str.ofString "name"=Str.ofString "num")=False:=⟨FJ,ID,Fh,D4,D7,GC⟩
theorem uV:(∀ o:Op,(o.word=Str.ofString "at")=False)/\(∀ o:Op,(o.word=Str.ofString "any")=False)/\(∀ o:Op,(o.word=Str.ofString "from")=False)/\(∀ o:Op,(o.word=Str.ofString "turn")=False)/\(∀ o:Op,(o.word=Str.ofString "num")=False)/\(∀ o:Op,(o.word=Str.ofString "name")=False):=⟨PM,NU,JA,JQ,OB,JM⟩
theorem uP:(∀ o:Op,(Str.ofString "at"=o.word)=False)/\(∀ o:Op,(Str.ofString "any"=o.word)=False)/\(∀ o:Op,(Str.ofString "from"=o.word)=False)/\(∀ o:Op,(Str.ofString "turn"=o.word)=False)/\(∀ o:Op,(Str.ofString "num"=o.word)=False)/\(∀ o:Op,(Str.ofString "name"=o.word)=False):=⟨O8,MK,Kr,J0,MN,Kx⟩
section
variable {P:Program} {w:World} {K:PySem.W.Frag} {mg:Str->Option Value} {base:Heap} {f d d2 fl:Addr} {fd:FuncData}
theorem u4 {neg:Bool} {i j:Int} {M:aF} {Q:UK}:Aq neg (.int i) (.int j) M Q=Q (.bl (if neg then !decide (i=j) else decide (i=j))) M:=rfl
theorem u9 {neg:Bool} {i j:Str} {M:aF} {Q:UK}:Aq neg (.str i) (.str j) M Q=Q (.bl (if neg then !decide (i=j) else decide (i=j))) M:=rfl
theorem big {k:Nat} (h:k < 100000):k < sizeLine:=Nat.lt_of_lt_of_le h (by decide)
def i6:bG:=fun us M Q=>∃ (z:Str) (r:List U) (b:Bool),us=[.tup (.str z :: r)]/\(cH cR z).isSome=b/\r.length<=1000/\Q (.tup (if b then r else [])) M
local macro_rules | `(tactic| simp_all! only [$xs,*]) => `(tactic| simp only [$xs,*, Bool.false_eq_true, Bool.not_false, Bool.not_true, List.append_nil, List.cons_append, List.getElem?_cons_succ, List.getElem?_cons_zero, List.length_cons, List.length_nil, List.map_cons, List.map_nil, List.nil_append, List.replicate, List.set_cons_succ, List.set_cons_zero, Nat.add_sub_cancel, Nat.reduceAdd, Nat.reduceLeDiff, Nat.reduceSub, Nat.sub_self, Option.getD_some, Option.some.injEq, and_true, Mh, LP, at2, Mt, Ff, FV, BY, sV, BZ, w6, sP, zQ, FC, pU, IG, Iq, Hi, L0, fG, decide_false, decide_true, u4, u9, exists_eq_left', iD, hName, kM, i5, if_false, if_true, Gn, dG, iB, iF, iC, i4, h9, i8, gY, lI, lE, lY, kX, mK, kB, kT, lH, mN, lG, mL, kA, mU, mJ, nZ, mX, nT, kS, lD, kZ, m5, lF, mI, jZ, mW, m4, n0, mP, nR, lA, kF, kG, kY, kE, lJ, jQ, items, gT, nA, zM, nQ, GY, yS, iH, aV, aD, reduceCtorEq, eS, Mj, true_and, DC, xB, sE, zY, vN, bC, Bd, Fu, yC, uC, CQ, qB, uQ, qX, n6, BS, fM, vA, rD, Fm, uI, tT, Es, xE, jG, xF, tF, Cn, Ax, zX, wQ, Gv, cA, uZ, pI, Az, tD, BR, mG, EI, GV, vU, bV, BX, vY, BO, xH, nS, zO, sX, Ap, Ab, LK, oU, Ad, BP, xP, xR, yE, uF, yX, yO])
theorem D8 (F:cK K "parts_of" "parts_of" j7 f fd) (hm:mg "parts_of"=some (.ref f)) (fB:jP P w K d cR) (eZ:mg "SIGNS"=some (.ref d)):Callee P w K mg base 1 "parts_of" i6 []:=by
 refine bP F hm DM (CO fun _ _ _ _ _ _ _=>rfl) (aL (bD (BN (bW (EJ fB) (aQ (uv 0) aP) (xX eZ)) (rR (own:=false) (uv 0) (pG aP) pK) (bZ aB)))) ?_
 rintro us M Q ⟨z,r,b,rfl,hb,hl,q⟩
 refine ⟨rfl,?_⟩
 simp_all! only [hb]
 cases b with
 | true =>
  simp_all! only [Qj]
  exact aW q
 | false =>
  simp_all! only [true_and]
  exact aW q
theorem Aw:(cH cR (Str.ofString "turn")).isSome=true:=by decide +kernel
theorem yG (o:Op):(cH cR o.word).isSome=true:=by cases o <;> decide +kernel
def Cd:bG:=fun us M Q=>∃ (p:Pt) (t:Tr),us=[p.toU,t.toU]/\(p=.any\/∃ l h,p=.fr l h)/\Q (.bl (rV p t)) M
theorem Jt:∀ p:Pt,1<=p.dep
 | .hole _=>Nat.le_refl _
 | .any=>Nat.le_refl _
 | .fr _ _=>Nat.le_refl _
 | .turn a=>by simp only [Pt.dep];omega
 | .two o a b=>by simp only [Pt.dep];omega
theorem mulL {i j:Int} (h1:-(2 ^ 64) < i) (h2:i < 2 ^ 64):qE i j:=.inl (.inl ⟨h1,h2⟩)
theorem mulR {i j:Int} (h1:-(2 ^ 64) < j) (h2:j < 2 ^ 64):qE i j:=.inl (.inr ⟨h1,h2⟩)
def aX (l:List Str):U:=.tup (l.map .str)
def bM:Pt->PyData
 | .hole c=>.tuple [.str "at",.str c]
 | .any=>.tuple [.str "any"]
 | .fr l h=>.tuple [.str "from",.int l,.int h]
 | .turn a=>.tuple [.str "turn",bM a]
 | .two o a b=>.tuple [.str o.word,bM a,bM b]
theorem vR:∀ p:Pt,toD p.toU=some (bM p)
 | .hole c=>by simp [Pt.toU,toD,dY,bM]
 | .any=>by simp [Pt.toU,toD,dY,bM]
 | .fr l h=>by simp [Pt.toU,toD,dY,bM]
 | .turn a=>by simp [Pt.toU,toD,dY,bM,vR a]
 | .two o a b=>by simp [Pt.toU,toD,dY,bM,vR a,vR b]
theorem tI:∀ p:Pt,p.ok->(bM p).canLay0=true
 | .hole c,h=>by
  have h':PyData.strOk c=true:=h
  simp only [bM,PyData.canLay0,PyData.canLayAll0,h'];decide +kernel
 | .any,_=>by decide +kernel
 | .fr l h,_=>by simp only [bM,PyData.canLay0,PyData.canLayAll0];decide +kernel
 | .turn a,h=>by simp only [bM,PyData.canLay0,PyData.canLayAll0,tI a h];decide +kernel
 | .two o a b,h=>by
  have:PyData.strOk o.word=true:=by cases o <;> decide +kernel
  simp only [bM,PyData.canLay0,PyData.canLayAll0,tI a h.1,tI b h.2,this];decide +kernel
def nI:Tr->PyData
 | .num n=>.tuple [.str "num",.int n]
 | .name x=>.tuple [.str "name",.str x]
 | .turn a=>.tuple [.str "turn",nI a]
 | .two o a b=>.tuple [.str o.word,nI a,nI b]
theorem FL:∀ p:Tr,toD p.toU=some (nI p)
 | .num c=>by simp [Tr.toU,toD,dY,nI]
 | .name c=>by simp [Tr.toU,toD,dY,nI]
 | .turn a=>by simp [Tr.toU,toD,dY,nI,FL a]
 | .two o a b=>by simp [Tr.toU,toD,dY,nI,FL a,FL b]
theorem JL:∀ p:Tr,p.ok->(nI p).canLay0=true
 | .num c,h=>by simp only [nI,PyData.canLay0,PyData.canLayAll0];decide +kernel
 | .name c,h=>by
  have h':PyData.strOk c=true:=h.1
  simp only [nI,PyData.canLay0,PyData.canLayAll0,h'];decide +kernel
 | .turn a,h=>by simp only [nI,PyData.canLay0,PyData.canLayAll0,JL a h];decide +kernel
 | .two o a b,h=>by
  have:PyData.strOk o.word=true:=by cases o <;> decide +kernel
  simp only [nI,PyData.canLay0,PyData.canLayAll0,JL a h.1,JL b h.2,this];decide +kernel
def SA (p:Pt):U:=.tup [p.toU,.int (p.dep:Nat)]
def AF:List Pt->Nat
 | []=>0
 | p :: r=>p.holes + AF r
theorem KW:∀ l r:List Pt,AF (l++r)=AF l + AF r
 | [],_=>by simp [AF]
 | t :: l,r=>by simp [AF,KW l r];omega
def SQ (n:Int):Op:=if n % 3=0 then .sum else if n % 3=1 then .less else .by_
theorem aI {u v:US} {D:qA} {τ:SU} {M:aF} (h:∀ V:SU->aF->Prop,V=v D->u { D with nx:=V } τ M):xH u v D τ M:=h _ rfl
theorem cB {c:UT} {t u:US} {D:qA} {τ:SU} {M:aF} (h:∀ A B:aF->Prop,A=t D τ->B=u D τ->c τ M fun b M1=>if b=true then A M1 else B M1):xE c t u D τ M:=h _ _ rfl rfl
def fH (p:List Nat):U:=.tup (p.map fun (n:Nat)=>.int (n:Int))
def xO (x:List Nat × Pt):U:=.tup [fH x.1,x.2.toU]
def vL:Pt->List Nat->List (List Nat × Pt)
 | .turn a,pl=>vL a (pl++[0])
 | .two _ a b,pl=>vL a (pl++[0])++vL b (pl++[1])
 | p,pl=>[(pl,p)]
theorem sI:∀ (p:Pt) (pl:List Nat),(vL p pl).map (·.2)=p.ends
 | .turn a,pl=>by simp only [vL,Pt.ends,sI a]
 | .two _ a b,pl=>by simp only [vL,Pt.ends,List.map_append,sI a,sI b]
 | .hole _,pl=>rfl
 | .any,pl=>rfl
 | .fr _ _,pl=>rfl
def Ge:Pt->Tr->List U
 | .any,.name x=>[.str x]
 | .fr _ _,.num n=>[.int n]
 | .turn p,.turn a=>Ge p a
 | .two _ p q,.two _ a b=>Ge p a++Ge q b
 | _,_=>[]
def tE:dQ:=fun x y M Q=>match x,y with
 | .bl i,.bl j=>Q (.bl (decide (i=j))) M
 | _,_=>False
def Pt.parts:Pt->List Pt
 | .turn a=>[a]
 | .two _ a b=>[a,b]
 | _=>[]
def fJ:Pt->List Nat->List (List Nat × Pt)
 | .turn a,pl=>(pl,.turn a) :: fJ a (pl++[0])
 | .two o a b,pl=>(pl,.two o a b) :: (fJ a (pl++[0])++fJ b (pl++[1]))
 | p,pl=>[(pl,p)]
def Pt.places:Pt->List (List Nat)
 | .turn a=>[] :: a.places.map (0 :: ·)
 | .two _ a b=>[] :: (a.places.map (0 :: ·)++b.places.map (1 :: ·))
 | _=>[[]]
theorem nV:∀ (p:Pt) (pl:List Nat),(fJ p pl).map (·.1)=p.places.map (pl++·)
 | .turn a,pl=>by simp [fJ,Pt.places,nV a]
 | .two o a b,pl=>by
  simp only [fJ,Pt.places,List.map_cons,List.map_append,nV a,nV b,List.map_map,List.append_nil]
  simp [Function.comp_def]
 | .hole _,pl=>by simp [fJ,Pt.places]
 | .any,pl=>by simp [fJ,Pt.places]
 | .fr _ _,pl=>by simp [fJ,Pt.places]
theorem places_len:∀ p:Pt,p.places.length < 2 ^ p.dep
 | .turn a=>by have:=places_len a;simp only [Pt.places,Pt.dep,List.length_cons,List.length_map,Nat.pow_succ];omega
 | .two _ a b=>by
  have h1:=places_len a
  have h2:=places_len b
  have h3:2 ^ a.dep<=2 ^ max a.dep b.dep:=Nat.pow_le_pow_right (by decide) (Nat.le_max_left _ _)
  have h4:2 ^ b.dep<=2 ^ max a.dep b.dep:=Nat.pow_le_pow_right (by decide) (Nat.le_max_right _ _)
  simp only [Pt.places,Pt.dep,Nat.pow_succ,List.length_cons,List.length_append,List.length_map];omega
 | .hole _=>by simp [Pt.places,Pt.dep]
 | .any=>by simp [Pt.places,Pt.dep]
 | .fr _ _=>by simp [Pt.places,Pt.dep]
theorem nW:∀ (p:Pt) (pl:List Nat),pl∈p.places->pl.length < p.dep
 | .turn a,pl,h=>by
  simp only [Pt.places,List.mem_cons,List.mem_map] at h
  rcases h with rfl | ⟨q,hq,rfl⟩
  ·simp [Pt.dep]
  ·have:=nW a q hq;simp only [Pt.dep,List.length_cons];omega
 | .two o a b,pl,h=>by
  simp only [Pt.places,List.mem_cons,List.mem_append,List.mem_map] at h
  rcases h with rfl | ⟨q,hq,rfl⟩ | ⟨q,hq,rfl⟩
  ·simp [Pt.dep]
  ·have:=nW a q hq;simp only [Pt.dep,List.length_cons];omega
  ·have:=nW b q hq;simp only [Pt.dep,List.length_cons];omega
 | .hole _,pl,h=>by simp [Pt.places] at h;subst h;simp [Pt.dep]
 | .any,pl,h=>by simp [Pt.places] at h;subst h;simp [Pt.dep]
 | .fr _ _,pl,h=>by simp [Pt.places] at h;subst h;simp [Pt.dep]
def pS (n:Nat):bG:=fun us M Q=>∃ p:Pt,us=[p.toU]/\p.dep<=n/\n<=10/\Q (.lst (p.places.map fH)) M
theorem RV:(cH cR (Str.ofString "at")).isSome=false:=by decide +kernel
theorem LR:(cH cR (Str.ofString "any")).isSome=false:=by decide +kernel
theorem IU:(cH cR (Str.ofString "from")).isSome=false:=by decide +kernel
theorem uY (p:Pt):∃ z r,p.toU=.tup (.str z :: r)/\(cH cR z).isSome=!p.leafy/\(p.leafy=false->r=p.parts.map Pt.toU)/\r.length<=3:=by
 cases p with
 | hole c=>exact ⟨_,_,rfl,RV,(fun h=>by cases h),by simp⟩
 | any=>exact ⟨_,_,rfl,LR,(fun h=>by cases h),by simp⟩
 | fr l h=>exact ⟨_,_,rfl,IU,(fun h=>by cases h),by simp⟩
 | turn a=>exact ⟨_,_,rfl,Aw,fun _=>rfl,by simp⟩
 | two o a b=>exact ⟨_,_,rfl,yG o,fun _=>rfl,by simp⟩
theorem Gr {p:Pt} (h:p.leafy=true):p.parts=[]:=by cases p <;> first | rfl | cases h
def cV:Nat->List Pt->List (List Nat)
 | _,[]=>[]
 | k,a :: r=>a.places.map (k :: ·)++cV (k + 1) r
theorem places_eq (p:Pt):p.places=[] :: cV 0 p.parts:=by cases p <;> simp [Pt.places,Pt.parts,cV]
theorem Fx (l:List Pt) (a:Pt):∀ k,cV k (l++[a])=cV k l++a.places.map ((k + l.length) :: ·):=by
 induction l with
 | nil=>intro k;simp [cV]
 | cons b l ih=>intro k;simp only [List.cons_append,cV,ih,List.length_cons,List.append_assoc];rw [show k + 1 + l.length=k + (l.length + 1) by omega]
theorem KG (p:Pt) (i:Nat):(cV 0 (p.parts.take i)).length + 1<=p.places.length:=by
 have:∀ (l:List Pt) (k j:Nat),(cV k (l.take j)).length<=(cV k l).length:=by
  intro l
  induction l with
  | nil=>intro k j;simp [cV]
  | cons a l ih =>
   intro k j
   cases j with
   | zero=>simp [cV]
   | succ j=>simp only [List.take_succ_cons,cV,List.length_append];have:=ih (k + 1) j;omega
 have h1:=this p.parts 0 i
 rw [places_eq p,List.length_cons]
 omega
theorem LD {p a:Pt} {i:Nat} (h:p.parts[i]?=some a):a.dep < p.dep:=by
 have hm:=List.mem_of_getElem? h
 cases p with
 | turn b =>
  have:a=b:=by simpa [Pt.parts] using hm
  subst this;simp only [Pt.dep];omega
 | two o b c =>
  have:a=b\/a=c:=by simpa [Pt.parts] using hm
  simp only [Pt.dep]
  rcases this with rfl | rfl <;> omega
 | _=>cases hm
theorem CL {n:Nat} (F:cK K "places_of" "places_of" hJ f fd) (hm:mg "places_of"=some (.ref f)) (fC:mg "enumerate"=none)
  (dB:Callee P w K mg base 1 "parts_of" i6 []) (qT:Callee P w K mg base (n + 1) "places_of" (pS n) []):Callee P w K mg base (n + 2) "places_of" (pS (n + 1)) []:=by
 refine bP F hm m8 (CO fun _ _ _ _ _ _ _=>rfl) (aE (aS 1 m8.nd (cF (own:=true) (aA (bZ aB) aB)))
 (aE (dW (Df fC (aA (aK dB (aA (uv 0) aB)) aB)) (jV (n:=2) (bN (aU (k:=1000) 2 m8.nd) (bN (aU (k:=1000) 3 m8.nd) iQ)))
 (aL (fA (AL (uv 1) (aA (nJ false ["place","number"] 1 [2] (dS (aK qT (aA (uv 3) aB))) (aU (k:=1) 0 (by dsimp only [bR];decide +kernel)) jJ (cG (own:=false) (bZ (aA (uv 1) aB)) (uv 0))) aB)))))
 (aL (bD (uv 1))))) ?_
 rintro us M Q ⟨t,rfl,hd,hz,q⟩
 refine ⟨rfl,?_⟩
 have hbig:∀ a:Pt,a.dep<=10->a.places.length<=1024:=fun a ha=>by
  have h1:=places_len a
  have h2:2 ^ a.dep<=2 ^ 10:=Nat.pow_le_pow_right (by decide) ha
  omega
 simp_all! only [eR,tE]
 refine fun p hp=>?_
 refine eA (S:=⟨none,numbered (t.parts.map Pt.toU)⟩) (M1:=mup M p (.lst [.tup []])) (fun R r=>?_)
  (fun i τ Mi=>∃ b c,τ=[some t.toU,some (.ref p),b,c]/\Mi=mup M p (.lst (([] :: cV 0 (t.parts.take i)).map fH))) ⟨none,none,rfl,rfl⟩ nk ?_ ?_
 ·obtain ⟨z,rr,e,e1,e2,e3⟩:=uY t
  refine ⟨z,rr,!t.leafy,by rw [<- e];rfl,e1,by omega,?_⟩
  cases hl:t.leafy with
  | true=>simp only [hl,Bool.not_true,Bool.false_eq_true,if_false];rw [Gr hl] at r;exact r
  | false=>simp only [hl,Bool.not_false,if_true];rw [e2 hl];exact r
 ·rintro i x τ Mi e ⟨b,c,rfl,rfl⟩
  obtain ⟨u,hu,rfl⟩:=pZ e
  rw [List.getElem?_map] at hu
  cases hp':t.parts[i]? with
  | none=>rw [hp'] at hu;cases hu
  | some a =>
   rw [hp'] at hu
   cases hu
   have ha:=LD hp'
   have hin:cV 0 (t.parts.take (i + 1))=cV 0 (t.parts.take i)++a.places.map (i :: ·):=by
    have hlt:=(List.getElem?_eq_some_iff.mp hp').1
    rw [List.take_add_one,hp']
    have:=Fx (t.parts.take i) a 0
    rw [List.length_take,Nat.min_eq_left (Nat.le_of_lt hlt),Nat.zero_add] at this
    exact this
   have hb1:=hbig a (by omega)
   simp_all! only [eR,tE]
   refine ⟨EX,gS (S:=⟨none,a.places.map fH⟩) (M1:=mup M p (MO.lst (fH [] :: List.map fH (cV 0 (List.take i t.parts))))) (a.places.map fun pl=>fH (i :: pl)) (fun R r'=>⟨a,rfl,by omega,by omega,r'⟩) (by simp) ?_ (fun a e=>by cases e) ?_ ?_⟩
   ·show (a.places.map fH).length<=sizeLine
    rw [List.length_map]
    exact small (by omega)
   ·intro j x y hx hy M' _ R r'
    have hx':(a.places.map fH)[j]?=some x:=hx
    rw [List.getElem?_map] at hx' hy
    cases hpl:a.places[j]? with
    | none=>rw [hpl] at hx';cases hx'
    | some pl =>
     rw [hpl] at hx' hy
     cases hx'
     cases hy
     have h1:=nW a pl (List.mem_of_getElem? hpl)
     simp_all! only [fH,eR,tE]
     refine ⟨small ?_,?_⟩
     ·simp only [List.length_cons,List.length_nil,List.length_map];omega
     ·simpa [fH] using r'
   ·have h1:=KG t i
    have h2:=hbig t (by omega)
    simp_all! only [eR,tE]
    refine ⟨small ?_,_,_,rfl,?_⟩
    ·simp only [List.length_map];omega
    ·rw [hin,List.map_append,List.map_map];rfl
 ·rintro τ Mi ⟨b,c,rfl,rfl⟩
  rw [mV,List.length_map,List.take_length,<- places_eq]
  simp_all! only [eR,tE]
  exact ⟨_,M,(Sub.refl M).mup hp,.inr ⟨p,_,rfl,aD,hp,rfl⟩,q⟩
theorem yW (F:cK K "places_of" "places_of" hJ f fd) (hm:mg "places_of"=some (.ref f)) (fC:mg "enumerate"=none) (dB:Callee P w K mg base 1 "parts_of" i6 []):∀ n,Callee P w K mg base (n + 1) "places_of" (pS n) []
 | 0=>by
  have no:∀ us M Q,¬ pS 0 us M Q:=fun us M Q h=>by
   obtain ⟨p,_,h,_⟩:=h
   have:=Jt p
   omega
  refine ⟨f,fd,["shape"],[],[],⟨fun vs H Q E h=>?_,fun A outer s H args us vs Q E _ _ _ _ h=>?_⟩,hm,F.kp,F.binds (CO fun _ _ _ _ _ _ _=>rfl),.nil,fun H M=>.nil⟩
  ·obtain ⟨us,M,Q',_,_,h,_⟩:=h;exact absurd h (no us M Q')
  ·obtain ⟨us,M,Q',_,_,h,_⟩:=h;exact absurd h (no us M Q')
 | n + 1=>CL F hm fC dB (yW F hm fC dB n)
def iW:U->Nat->Option U
 | .tup (.str z :: r),k=>if (cH cR z).isSome then (if r.length<=1000 then r[k]? else none) else none
 | _,_=>none
def oX:U->List Nat->Option U
 | u,[]=>some u
 | u,k :: pl=>(iW u k).bind fun v=>oX v pl
theorem J5 {h w:U} {k:Nat} (e:iW h k=some w):∃ z r,h=.tup (.str z :: r)/\(cH cR z).isSome=true/\r.length<=1000/\r[k]?=some w:=by
 match h,e with
 | .tup (.str z :: r),e =>
  simp only [iW] at e
  split at e
  ·rename_i h1
   split at e
   ·rename_i h2
    exact ⟨z,r,rfl,h1,h2,e⟩
   ·cases e
  ·cases e
 | .tup [],e=>cases e
 | .tup (.non :: _),e=>cases e
 | .tup (.bl _ :: _),e=>cases e
 | .tup (.int _ :: _),e=>cases e
 | .tup (.ty _ :: _),e=>cases e
 | .tup (.ref _ :: _),e=>cases e
 | .tup (.tup _ :: _),e=>cases e
 | .tup (.lst _ :: _),e=>cases e
 | .non,e=>cases e
 | .bl _,e=>cases e
 | .int _,e=>cases e
 | .str _,e=>cases e
 | .ty _,e=>cases e
 | .ref _,e=>cases e
 | .lst _,e=>cases e
theorem Ct:∀ (l:List Nat) (u:U) (k:Nat),oX u (l++[k])=(oX u l).bind fun v=>iW v k
 | [],u,k=>by simp only [List.nil_append,oX,Option.bind_some];cases iW u k <;> rfl
 | j :: l,u,k=>by
  simp only [List.cons_append,oX]
  cases iW u j with
  | none=>rfl
  | some v=>exact Ct l v k
theorem Cg:∀ (l r:List Nat) (u:U),oX u l=none->oX u (l++r)=none
 | [],r,u,z=>by cases z
 | j :: l,r,u,z=>by
  simp only [List.cons_append,oX] at z ⊢
  cases hj:iW u j with
  | none=>rfl
  | some v=>rw [hj] at z;exact Cg l r v z
def Mn:bG:=fun us M Q=>∃ (u v:U) (pl:List Nat),us=[u,fH pl]/\oX u pl=some v/\Q v M
theorem D0 (F:cK K "shape_at" "shape_at" kC f fd) (hm:mg "shape_at"=some (.ref f)) (dB:Callee P w K mg base 1 "parts_of" i6 []):Callee P w K mg base 2 "shape_at" Mn []:=by
 refine bP F hm oB (t8 fun _ _ _ _ _ _ _ _=>rfl) (aE (aS 2 oB.nd (uv 0))
 (aE (dW (dS (uv 1)) (aU (k:=1000) 3 oB.nd)
 (aL (aS 2 oB.nd (aQ (aK dB (aA (uv 2) aB)) (uv 3)))))
 (aL (bD (uv 2))))) ?_
 rintro us M Q ⟨u,v,pl,rfl,hpl,q⟩
 refine ⟨rfl,?_⟩
 simp_all! only [eR,tE]
 refine eA (S:=⟨none,pl.map fun (n:Nat)=>U.int (n:Int)⟩) (M1:=M) (fun R r=>r)
  (fun i τ Mi=>∃ (h:U) (c:Option U),τ=[some u,some (fH pl),some h,c]/\Mi=M/\oX u (pl.take i)=some h) ⟨u,none,rfl,rfl,rfl⟩ nk ?_ ?_
 ·rintro i x τ Mi e ⟨h,c,rfl,rfl,hh⟩
  have e':(pl.map fun (n:Nat)=>U.int (n:Int))[i]?=some x:=e
  rw [List.getElem?_map] at e'
  cases hk:pl[i]? with
  | none=>rw [hk] at e';cases e'
  | some k =>
   rw [hk] at e'
   cases e'
   have hnx:oX u (pl.take (i + 1))=iW h k:=by
    rw [List.take_add_one,hk]
    show oX u (pl.take i++[k])=_
    rw [Ct,hh];rfl
   cases hs:iW h k with
   | none =>
    rw [hs] at hnx
    have:=Cg (pl.take (i + 1)) (pl.drop (i + 1)) u hnx
    rw [List.take_append_drop,hpl] at this
    cases this
   | some w' =>
    rw [hs] at hnx
    obtain ⟨z,r,rfl,hz,hr,hs'⟩:=J5 hs
    simp_all! only [eR,tE]
    refine ⟨z,r,true,rfl,hz,hr,?_⟩
    simp_all! only [eR,tE]
    exact ⟨w',eL hs',w',_,rfl,hnx⟩
 ·rintro τ Mi ⟨h,c,rfl,rfl,hh⟩
  simp only [List.length_map,List.take_length] at hh
  rw [hpl] at hh
  cases hh
  simp_all! only [eR,tE]
  exact aW q
theorem N7 (a:U):iW (.tup [.str (Str.ofString "turn"),a]) 0=some a:=by
 simp only [iW];rw [if_pos Aw,if_pos (by simp)];rfl
theorem NL (o:Op) (a b:U):iW (.tup [.str o.word,a,b]) 0=some a:=by
 simp only [iW];rw [if_pos (yG o),if_pos (by simp)];rfl
theorem Ni (o:Op) (a b:U):iW (.tup [.str o.word,a,b]) 1=some b:=by
 simp only [iW];rw [if_pos (yG o),if_pos (by simp)];rfl
theorem vH:∀ (p:Pt) (pre:List Nat) (e:List Nat × Pt),e∈fJ p pre->∃ s,e.1=pre++s/\oX p.toU s=some e.2.toU
 | .turn a,pre,e,h=>by
  simp only [fJ] at h
  rcases List.mem_cons.mp h with rfl | h
  ·exact ⟨[],by simp,rfl⟩
  ·obtain ⟨s,h1,h2⟩:=vH a _ e h
   refine ⟨0 :: s,by rw [h1];simp,?_⟩
   simp only [oX,Pt.toU,N7,Option.bind_some,h2]
 | .two o a b,pre,e,h=>by
  simp only [fJ] at h
  rcases List.mem_cons.mp h with rfl | h
  ·exact ⟨[],by simp,rfl⟩
  ·rcases List.mem_append.mp h with h | h
   ·obtain ⟨s,h1,h2⟩:=vH a _ e h
    refine ⟨0 :: s,by rw [h1];simp,?_⟩
    simp only [oX,Pt.toU,NL,Option.bind_some,h2]
   ·obtain ⟨s,h1,h2⟩:=vH b _ e h
    refine ⟨1 :: s,by rw [h1];simp,?_⟩
    simp only [oX,Pt.toU,Ni,Option.bind_some,h2]
 | .hole _,pre,e,h=>by cases List.mem_singleton.mp h;exact ⟨[],by simp,rfl⟩
 | .any,pre,e,h=>by cases List.mem_singleton.mp h;exact ⟨[],by simp,rfl⟩
 | .fr _ _,pre,e,h=>by cases List.mem_singleton.mp h;exact ⟨[],by simp,rfl⟩
def zI (e:List Nat × Pt):Bool:=decide (e.2.holes=0)
def fU:U->Option U
 | .tup [a,.tup (.str z :: r)]=>if (!decide (z=Str.ofString "at")) && !(cH cR z).isSome then some (.tup [a,.tup (.str z :: r)]) else none
 | _=>none
theorem Sv (e:List Nat × Pt):fU (xO e)=if e.2.leafy && zI e then some (xO e) else none:=by
 obtain ⟨pl,q⟩:=e
 have e1:decide (Str.ofString "at"=Str.ofString "at")=true:=by simp
 cases q with
 | hole c=>simp only [xO,Pt.toU,fU,e1,Pt.leafy,zI,Pt.holes];rfl
 | any=>simp only [xO,Pt.toU,fU,tY,tX,uG,tW,t4,uV,uP,LR,Pt.leafy,zI,Pt.holes];rfl
 | fr l h=>simp only [xO,Pt.toU,fU,tY,tX,uG,tW,t4,uV,uP,IU,Pt.leafy,zI,Pt.holes];rfl
 | turn a=>simp only [xO,Pt.toU,fU,tY,tX,uG,tW,t4,uV,uP,Aw,Pt.leafy];rfl
 | two o a b=>simp only [xO,Pt.toU,fU,tY,tX,uG,tW,t4,uV,uP,yG,Pt.leafy];rfl
theorem Cm {M:aF} {p:Addr} {o:MO} (h:M p=some o):mup M p o=M:=by
 funext x
 by_cases e:x=p
 ·subst e;rw [aD,h]
 ·rw [aG e]
def cJ (M:aF) (t r:Addr) (T R:List U):aF:=mup (mup M t (.lst T)) r (.lst R)
theorem nY {M:aF} {t r:Addr} {T R:List U} (h:t≠r):cJ M t r T R t=some (.lst T):=by unfold cJ;rw [aG h,aD]
theorem sA {M:aF} {t r:Addr} {T R:List U}:cJ M t r T R r=some (.lst R):=aD
theorem gZ {M:aF} {t r:Addr} {T R T':List U} (h:t≠r):mup (cJ M t r T R) t (.lst T')=cJ M t r T' R:=by
 funext x
 unfold cJ
 by_cases e1:x=t
 ·subst e1;rw [aD,aG h,aD]
 ·rw [aG e1]
  by_cases e2:x=r
  ·subst e2;rw [aD,aD]
  ·rw [aG e2,aG e2,aG e1,aG e1]
theorem Dy {M:aF} {t r:Addr} {T R R':List U}:mup (cJ M t r T R) r (.lst R')=cJ M t r T R':=by unfold cJ;rw [aV]
structure Tk where
 cls:Str
 pt:Pt
 cost:Int
def Tk.good (k:Tk):Prop:=k.pt.ok/\k.pt.dep<=4
structure fQ (cs:List Str):Prop where
 ne:cs≠[]
 len:cs.length<=6
 ok:∀ s∈cs,PyData.strOk s=true
def R8 (s:Str):List Pt:=[.any,.fr 0 (10 ^ Int.toNat 18),.two .sum (.hole s) (.hole s),.two .less (.hole s) (.hole s),.two .by_ (.hole s) (.hole s),.turn (.hole s)]
def Pt.isHole:Pt->Bool
 | .hole _=>true
 | _=>false
theorem qI (p:Pt):∃ z rr,p.toU=.tup (.str z :: rr)/\decide (z=Str.ofString "at")=p.isHole:=by
 cases p with
 | hole c=>exact ⟨_,_,rfl,by simp [Pt.isHole]⟩
 | any=>exact ⟨_,_,rfl,by simp [Pt.isHole,tY,tX,uG,tW,t4,uV,uP]⟩
 | fr l h=>exact ⟨_,_,rfl,by simp [Pt.isHole,tY,tX,uG,tW,t4,uV,uP]⟩
 | turn a=>exact ⟨_,_,rfl,by simp [Pt.isHole,tY,tX,uG,tW,t4,uV,uP]⟩
 | two o a b=>exact ⟨_,_,rfl,by simp [Pt.isHole,tY,tX,uG,tW,t4,uV,uP]⟩
def cS (acc:List Pt) (q:Pt):List Pt:=if q.isHole then acc else if acc.any (fun e=>PyData.eqv (bM e) (bM q)) then acc else acc++[q]
def fO:Pt->List Pt
 | .turn a=>.turn a :: fO a
 | .two o a b=>.two o a b :: (fO a++fO b)
 | p=>[p]
theorem Ki (acc:List Pt) (q:Pt):(cS acc q).length<=acc.length + 1:=by
 unfold cS
 split
 ·omega
 ·split
  ·omega
  ·simp
theorem xJ:∀ (l acc:List Pt),(l.foldl cS acc).length<=acc.length + l.length
 | [],acc=>by simp
 | q :: l,acc=>by
  have h1:=Ki acc q
  have h2:=xJ l (cS acc q)
  simp only [List.foldl_cons,List.length_cons];omega
def gI (p:Pt):Prop:=p.ok/\p.dep<=4
theorem Jj {acc:List Pt} {q:Pt} (h:∀ p∈acc,gI p) (hq:gI q):∀ p∈cS acc q,gI p:=by
 unfold cS
 intro p hp
 split at hp
 ·exact h p hp
 ·split at hp
  ·exact h p hp
  ·rcases List.mem_append.mp hp with hp | hp
   ·exact h p hp
   ·cases List.mem_singleton.mp hp;exact hq
theorem t9:∀ (l acc:List Pt),(∀ p∈acc,gI p)->(∀ p∈l,gI p)->∀ p∈l.foldl cS acc,gI p
 | [],acc,h,_=>h
 | q :: l,acc,h,hl=>t9 l (cS acc q) (Jj h (hl q List.mem_cons_self)) fun p hp=>hl p (List.mem_cons_of_mem _ hp)
theorem u3:∀ p:Pt,(fO p).length < 2 ^ p.dep
 | .hole _=>by simp [fO,Pt.dep]
 | .any=>by simp [fO,Pt.dep]
 | .fr _ _=>by simp [fO,Pt.dep]
 | .turn a=>by have:=u3 a;simp only [fO,Pt.dep,Nat.pow_succ,List.length_cons];omega
 | .two _ a b=>by
  have h1:=u3 a
  have h2:=u3 b
  have h3:2 ^ a.dep<=2 ^ max a.dep b.dep:=Nat.pow_le_pow_right (by decide) (Nat.le_max_left _ _)
  have h4:2 ^ b.dep<=2 ^ max a.dep b.dep:=Nat.pow_le_pow_right (by decide) (Nat.le_max_right _ _)
  simp only [fO,Pt.dep,Nat.pow_succ,List.length_cons,List.length_append];omega
theorem CF {p:Pt} (h:p.dep<=4):(fO p).length<=16:=by
 have h1:=u3 p
 have h2:2 ^ p.dep<=2 ^ 4:=Nat.pow_le_pow_right (by decide) h
 have h3:(2:Nat) ^ 4=16:=by decide
 omega
theorem sH:∀ p:Pt,p.ok->∀ q∈fO p,q.ok/\q.dep<=p.dep
 | .hole _,h,q,hq=>by cases List.mem_singleton.mp hq;exact ⟨h,Nat.le_refl _⟩
 | .any,h,q,hq=>by cases List.mem_singleton.mp hq;exact ⟨h,Nat.le_refl _⟩
 | .fr _ _,h,q,hq=>by cases List.mem_singleton.mp hq;exact ⟨h,Nat.le_refl _⟩
 | .turn a,h,q,hq=>by
  rcases List.mem_cons.mp hq with rfl | hq
  ·exact ⟨h,Nat.le_refl _⟩
  ·have:=sH a h q hq;simp only [Pt.dep];exact ⟨this.1,by omega⟩
 | .two _ a b,h,q,hq=>by
  rcases List.mem_cons.mp hq with rfl | hq
  ·exact ⟨h,Nat.le_refl _⟩
  ·rcases List.mem_append.mp hq with hq | hq
   ·have:=sH a h.1 q hq;simp only [Pt.dep];exact ⟨this.1,by omega⟩
   ·have:=sH b h.2 q hq;simp only [Pt.dep];exact ⟨this.1,by omega⟩
theorem Ey (l:List Pt):dY (l.map Pt.toU)=some (l.map bM):=by
 induction l with
 | nil=>simp [dY]
 | cons p l ih=>simp [dY,vR,ih]
theorem Hw (l:List Pt) (h:∀ p∈l,gI p):PyData.canLayAll0 (l.map bM)=true:=by
 induction l with
 | nil=>simp [PyData.canLayAll0]
 | cons p l ih=>simp only [List.map_cons,PyData.canLayAll0,tI p (h p List.mem_cons_self).1,ih fun x hx=>h x (List.mem_cons_of_mem _ hx)];rfl
theorem rA:∀ p:Pt,(bM p).depth<=2 * p.dep + 2
 | .hole _=>by simp [bM,PyData.depth,PyData.depthAll]
 | .any=>by simp [bM,PyData.depth,PyData.depthAll]
 | .fr _ _=>by simp [bM,PyData.depth,PyData.depthAll]
 | .turn a=>by have:=rA a;simp [bM,PyData.depth,PyData.depthAll,Pt.dep];omega
 | .two _ a b=>by have h1:=rA a;have h2:=rA b;simp [bM,PyData.depth,PyData.depthAll,Pt.dep];omega
theorem Oy {cs:List Str} {acc:List Pt} {q:Pt} {p:Addr} {M:aF} {Q:UK} (hM:M p=some (.lst (cs.map U.str++acc.map Pt.toU))) (hcs:∀ s∈cs,PyData.strOk s=true) (ha:∀ p∈acc,gI p) (hq:gI q) (h:Q (.bl (!acc.any fun e=>PyData.eqv (bM e) (bM q))) M):E9 true q.toU (.ref p) M Q:=by
 have hs:∀ l:List Str,(∀ s∈l,PyData.strOk s=true)->dY (l.map U.str++acc.map Pt.toU)=some (l.map PyData.str++acc.map bM)/\PyData.canLayAll0 (l.map PyData.str++acc.map bM)=true/\(l.map PyData.str++acc.map bM).any (fun e=>PyData.eqv e (bM q))=acc.any fun e=>PyData.eqv (bM e) (bM q):=by
  intro l
  induction l with
  | nil =>
   intro _
   refine ⟨by simpa using Ey acc,by simpa using Hw acc ha,?_⟩
   simp only [List.map_nil,List.nil_append,List.any_map];rfl
  | cons a l ih =>
   intro hl
   obtain ⟨i1,i2,i3⟩:=ih fun s hs=>hl s (List.mem_cons_of_mem _ hs)
   refine ⟨?_,?_,?_⟩
   ·simp only [List.map_cons,List.cons_append,dY,toD,i1]
   ·simp only [List.map_cons,List.cons_append,PyData.canLayAll0,PyData.canLay0,hl a List.mem_cons_self,i2,Bool.and_self]
   ·have:PyData.eqv (.str a) (bM q)=false:=by cases q <;> rfl
    simp only [List.map_cons,List.cons_append,List.any_cons,this,Bool.false_or,i3]
 obtain ⟨h1,h2,h3⟩:=hs cs hcs
 obtain ⟨z,rr,e,_⟩:=qI q
 have ht:qQ M q.toU=some (bM q):=by rw [<- vR q,e];rfl
 have hd:=rA q
 refine ⟨_,_,_,by simp only [items,hM],h1,ht,h2,tI q hq.1,by have:=hq.2;omega,?_⟩
 rw [h3];exact h
theorem Hg {acc:List Pt} {q:Pt} (h:q.isHole=true):cS acc q=acc:=by unfold cS;rw [if_pos h]
theorem Eo {acc:List Pt} {q:Pt} (h:q.isHole=false) (k:(acc.any fun e=>PyData.eqv (bM e) (bM q))=true):cS acc q=acc:=by unfold cS;rw [if_neg (by rw [h];simp),if_pos k]
theorem B5 {acc:List Pt} {q:Pt} (h:q.isHole=false) (k:(acc.any fun e=>PyData.eqv (bM e) (bM q))=false):cS acc q=acc++[q]:=by unfold cS;rw [if_neg (by rw [h];simp),if_neg (by rw [k];simp)]
structure Tl where
 name:Str
 k:Tk
def Tl.toU (t:Tl):U:=.tup [.str t.name,.str t.k.cls,t.k.pt.toU,.int t.k.cost]
theorem L1 {M:aF} {t:Tl}:view M t.toU=.tup [.str t.name,.str t.k.cls,t.k.pt.toU,.int t.k.cost]:=rfl
def fE (cs:List Str) (tls:List Tl):U:=.tup [aX cs,.tup (tls.map Tl.toU)]
theorem Ht {M:aF} {cs:List Str} {tls:List Tl}:view M (fE cs tls)=.tup [aX cs,.tup (tls.map Tl.toU)]:=rfl
def dZ (t:Tl):List Pt:=(fO t.k.pt).tail
def aN (tls:List Tl):List Pt:=(tls.flatMap dZ).foldl cS []
structure Tab (cs:List Str) (tls:List Tl):Prop where
 cls:fQ cs
 good:∀ t∈tls,t.k.good
 len:tls.length<=39
theorem tZ {cs:List Str} {tls:List Tl} (h:Tab cs tls):∀ t∈tls,∀ q∈fO t.k.pt,gI q:=fun t ht q hq=>by
 have:=sH t.k.pt (h.good t ht).1 q hq
 have h2:=(h.good t ht).2
 exact ⟨this.1,by omega⟩
theorem JH {cs:List Str} {tls:List Tl} (h:Tab cs tls) {t:Tl} (ht:t∈tls):(dZ t).length<=16:=by
 have:=CF (h.good t ht).2
 rw [dZ,List.length_tail];omega
theorem Cr {cs:List Str}:∀ {tls:List Tl},(∀ t∈tls,t.k.good)->(tls.flatMap dZ).length<=16 * tls.length
 | [],_=>by simp
 | t :: tls,h=>by
  have h1:=Cr (cs:=cs) (tls:=tls) fun x hx=>h x (List.mem_cons_of_mem _ hx)
  have h2:=CF (h t List.mem_cons_self).2
  have h3:(dZ t).length<=16:=by rw [dZ,List.length_tail];omega
  rw [List.flatMap_cons,List.length_append,List.length_cons];omega
theorem Jf {cs:List Str} {tls:List Tl} (h:Tab cs tls) (i:Nat):∀ q∈(tls.take i).flatMap dZ,gI q:=fun q hq=>by
 obtain ⟨t,ht,hq⟩:=List.mem_flatMap.mp hq
 exact tZ h t (List.mem_of_mem_take ht) q (List.mem_of_mem_tail hq)
theorem Dx {cs:List Str} {tls:List Tl} (h:Tab cs tls) (i:Nat):(∀ q∈((tls.take i).flatMap dZ).foldl cS [],gI q)/\(((tls.take i).flatMap dZ).foldl cS []).length<=640:=by
 refine ⟨t9 _ _ (fun p hp=>by cases hp) (Jf h i),?_⟩
 have h1:=xJ ((tls.take i).flatMap dZ) []
 have h2:=Cr (cs:=cs) (tls:=tls.take i) fun t ht=>h.good t (List.mem_of_mem_take ht)
 have h3:(tls.take i).length<=39:=by have:=h.len;rw [List.length_take];omega
 simp only [List.length_nil] at h1
 omega
theorem Lo {tls:List Tl} {i:Nat} {t:Tl} (e:tls[i]?=some t):((tls.take (i + 1)).flatMap dZ).foldl cS []=(dZ t).foldl cS (((tls.take i).flatMap dZ).foldl cS []):=by
 rw [List.take_add_one,e]
 simp [List.flatMap_append,List.foldl_append]
theorem v5:∀ (p:Pt) (pl:List Nat),(fJ p pl).map (·.2)=fO p
 | .turn a,pl=>by simp only [fJ,fO,List.map_cons,v5 a]
 | .two _ a b,pl=>by simp only [fJ,fO,List.map_cons,List.map_append,v5 a,v5 b]
 | .hole _,pl=>rfl
 | .any,pl=>rfl
 | .fr _ _,pl=>rfl
def G9:bG:=fun us M Q=>∃ (cs:List Str) (tls:List Tl),us=[fE cs tls]/\Tab cs tls/\∀ p,M p=none->Q (.ref p) (mup M p (.lst (cs.map U.str++(aN tls).map Pt.toU)))
local macro_rules | `(tactic| simp! only [$xs,*] $[$l]?) => `(tactic| simp only [$xs,*, Bool.false_eq_true, Bool.not_false, Bool.not_true, List.append_nil, List.cons_append, List.getElem?_cons_succ, List.getElem?_cons_zero, List.length_cons, List.length_nil, List.map_cons, List.map_nil, List.nil_append, List.replicate, List.set_cons_succ, List.set_cons_zero, Nat.add_sub_cancel, Nat.reduceAdd, Nat.reduceLeDiff, Nat.reduceSub, Nat.sub_self, Option.getD_some, Option.some.injEq, and_true, Mh, LP, at2, Mt, Ff, FV, BY, sV, BZ, w6, sP, zQ, FC, pU, IG, Iq, Hi, L0, fG, decide_false, decide_true, u4, u9, exists_eq_left', if_false, if_true, Gn, iB, iF, iC, i4, h9, i8, gY, lI, lE, lY, kX, mK, kB, kT, lH, mN, lG, mL, kA, mU, mJ, nZ, mX, nT, kS, lD, kZ, m5, lF, mI, jZ, mW, m4, n0, mP, nR, lA, kF, kG, kY, kE, lJ, jQ, items, nA, zM, nQ, GY, yS, iH, aV, aD, reduceCtorEq, eS, Mj, true_and, DC, xB, sE, zY, vN, Bd, Fu, uC, CQ, qB, uQ, qX, n6, vA, rD, Fm, uI, tT, Es, xF, tF, Cn, Ax, zX, wQ, Gv, uZ, pI, Az, tD, BR, mG, EI, GV, vU, vY, BO, zO, sX, Ap, Ab, LK, oU, Ad, BP, xP, xR, yE, uF, yX, yO] $[$l]?)
theorem By (F:cK K "columns_of" "columns_of" iT f fd) (hm:mg "columns_of"=some (.ref f)) (mE:mg "list"=none) (qT:Callee P w K mg base 7 "places_of" (pS 6) []) (GR:Callee P w K mg base 2 "shape_at" Mn []):Callee P w K mg base 8 "columns_of" G9 []:=by
 refine bP F hm jE (CO fun _ _ _ _ _ _ _=>rfl) (aE (aS 1 jE.nd (sG (B9 (own:=true)) mE (aA (aQ (uv 0) aP) aB)))
 (aE (dW (dS (aQ (uv 0) aP)) (aU (k:=1000) 2 jE.nd)
 (aE (nB 3 jE.nd false ["place","tile"] 1 [2] (dS (rR (own:=false) (aK qT (aA (aQ (uv 2) aP) aB)) (pG aP) pK)) (aU (k:=1) 0 (by dsimp only [bR];decide +kernel)) jJ (aK GR (aA (aQ (uv 1) aP) (aA (uv 0) aB))))
 (aL (dW (dS (uv 3)) (aU (k:=1000) 4 jE.nd)
 (aL (cM (lW.pt (mZ (bW u6 (aQ (uv 4) aP) fV) (lV (bW LH (uv 4) (uv 1)))))
 (aL (fA (jT (uv 1) (aA (uv 4) aB))))
 bQ))))))
 (aL (bD (uv 1))))) ?_
 rintro us M Q ⟨cs,tls,rfl,hT,q⟩
 refine ⟨rfl,?_⟩
 refine aI fun V hV=>?_
 simp! only [bC,hName,Ht,aX,jG,dG,gT,eR,eI,lZ,eX,fX,j6]
 intro p hp
 subst hV
 refine aI fun V hV=>?_
 refine eA (S:=⟨none,tls.map Tl.toU⟩) (M1:=mup M p (.lst (cs.map U.str))) (fun R r=>by simp! only [Ht,jG,dG,gT,eR,eI,lZ,eX,fX,j6];exact r)
  (fun i τ Mi=>∃ z2 z3 z4:Option U,τ=[some (fE cs tls),some (.ref p),z2,z3,z4]/\Mi=mup M p (.lst (cs.map U.str++(((tls.take i).flatMap dZ).foldl cS []).map Pt.toU))) ⟨none,none,none,rfl,by simp⟩ nk ?_ ?_
 ·rintro i x τ Mi e ⟨z2,z3,z4,rfl,rfl⟩
  have e':(tls.map Tl.toU)[i]?=some x:=e
  rw [List.getElem?_map] at e'
  cases ht:tls[i]? with
  | none=>rw [ht] at e';cases e'
  | some t =>
   rw [ht] at e'
   cases e'
   have htm:=List.mem_of_getElem? ht
   obtain ⟨hg1,hg2⟩:=hT.good t htm
   obtain ⟨ha1,ha2⟩:=Dx hT i
   have htl:=JH hT htm
   rw [Lo ht]
   generalize ((tls.take i).flatMap dZ).foldl cS []=acc at *
   simp! only [hName,jG,dG,gT,eR,eI,lZ,eX,fX,j6]
   refine aI fun V1 hV1=>?_
   simp! only [bC,hName,jG,dG,gT,eR,eI,lZ,eX,fX,j6]
   have hsn:=v5 t.k.pt []
   have hpl:=nV t.k.pt []
   have hpe:=places_eq t.k.pt
   have hlen:(cV 0 t.k.pt.parts).length=(dZ t).length:=by
    have h1:(fJ t.k.pt []).length=(fO t.k.pt).length:=by rw [<- hsn,List.length_map]
    have h2:(fJ t.k.pt []).length=t.k.pt.places.length:=by rw [<- List.length_map (f:=(·.1)),hpl,List.length_map]
    rw [hpe,List.length_cons] at h2
    rw [dZ,List.length_tail];omega
   refine gS (S:=⟨none,(cV 0 t.k.pt.parts).map fH⟩) (M1:=mup M p (.lst (cs.map U.str++acc.map Pt.toU))) ((dZ t).map Pt.toU) (fun R r=>?_) (by show _=((cV 0 t.k.pt.parts).map fH).length;rw [List.length_map,List.length_map,hlen]) (small (by show ((cV 0 t.k.pt.parts).map fH).length<=_;rw [List.length_map,hlen];omega)) (fun a e=>by cases e) ?_ ?_
   ·simp! only [L1,jG,dG,gT,eR,eI,lZ,eX,fX,j6]
    refine ⟨t.k.pt,rfl,by omega,by decide,?_⟩
    rw [hpe,List.map_cons]
    simp! only [Qj,jG,dG,gT,eR,eI,lZ,eX,fX,j6]
    exact r
   ·intro j x y hx hy M' _ R r'
    have hx':((cV 0 t.k.pt.parts).map fH)[j]?=some x:=hx
    rw [List.getElem?_map] at hx'
    rw [List.getElem?_map] at hy
    cases hj:(cV 0 t.k.pt.parts)[j]? with
    | none=>rw [hj] at hx';cases hx'
    | some pl =>
     cases hy2:(dZ t)[j]? with
     | none=>rw [hy2] at hy;cases hy
     | some qq =>
      rw [hj] at hx';rw [hy2] at hy
      cases hx';cases hy
      have hp1:t.k.pt.places[j + 1]?=some pl:=by rw [hpe,List.getElem?_cons_succ];exact hj
      have hp2:(fO t.k.pt)[j + 1]?=some qq:=by rw [<- List.getElem?_tail];exact hy2
      have hsb:∃ e,(fJ t.k.pt [])[j + 1]?=some e/\e.1=pl/\e.2=qq:=by
       rw [<- hsn,List.getElem?_map] at hp2
       cases hs:(fJ t.k.pt [])[j + 1]? with
       | none=>rw [hs] at hp2;cases hp2
       | some e =>
        rw [hs] at hp2
        have h3:((fJ t.k.pt []).map (·.1))[j + 1]?=some e.1:=by rw [List.getElem?_map,hs];rfl
        rw [hpl,List.getElem?_map,hp1] at h3
        exact ⟨e,rfl,by simpa using (Option.some.inj h3).symm,Option.some.inj hp2⟩
      obtain ⟨e,he,rfl,rfl⟩:=hsb
      obtain ⟨sx,e1,e2⟩:=vH t.k.pt [] e (List.mem_of_getElem? he)
      rw [List.nil_append] at e1
      simp_all! only [L1,eR,eI,lZ,eX,fX,E9,j6]
      exact ⟨_,_,e.1,rfl,by rw [e1];exact e2,r'⟩
   ·simp only [iH]
    subst hV1
    have htf:∀ q∈dZ t,gI q:=fun q hq=>tZ hT t htm q (List.mem_of_mem_tail hq)
    generalize hq0:dZ t=ql at *
    refine eA (S:=⟨none,ql.map Pt.toU⟩) (M1:=mup M p (.lst (cs.map U.str++acc.map Pt.toU))) (fun R r=>by simp! only [jG,dG,gT,eR,eI,lZ,eX,fX,j6];exact r)
     (fun j τ Mi=>∃ z4:Option U,τ=[some (fE cs tls),some (.ref p),some t.toU,some (.lst (ql.map Pt.toU)),z4]/\Mi=mup M p (.lst (cs.map U.str++((ql.take j).foldl cS acc).map Pt.toU))) ⟨_,rfl,rfl⟩ nk ?_ ?_
    ·rintro j x τ Mi ej ⟨z4,rfl,rfl⟩
     have ej':(ql.map Pt.toU)[j]?=some x:=ej
     rw [List.getElem?_map] at ej'
     cases hj:ql[j]? with
     | none=>rw [hj] at ej';cases ej'
     | some qq =>
      rw [hj] at ej'
      cases ej'
      have hnx:(ql.take (j + 1)).foldl cS acc=cS ((ql.take j).foldl cS acc) qq:=by
       rw [List.take_add_one,hj];simp [List.foldl_append]
      have hqf:=htf qq (List.mem_of_getElem? hj)
      have hac:=t9 (ql.take j) acc ha1 fun q hq=>htf q (List.mem_of_mem_take hq)
      have hal:=xJ (ql.take j) acc
      have htk:(ql.take j).length<=ql.length:=by rw [List.length_take];omega
      rw [hnx]
      generalize (ql.take j).foldl cS acc=ac at *
      obtain ⟨z,rr,ez,hz⟩:=qI qq
      simp! only [hName,jG,dG,gT,eR,eI,lZ,eX,fX,j6]
      refine cB fun A B hA hB=>?_
      have hb:cS ac qq=ac->B (mup M p (.lst (cs.map U.str++ac.map Pt.toU))):=fun hh=>by
       subst hB
       simp only [cA]
       rw [hh]
       exact ⟨_,rfl,rfl⟩
      simp! only [jG,dG,gT,eR,eI,lZ,eX,fX,j6]
      rw [ez]
      simp! only [hz,jG,dG,gT,eR,eI,lZ,eX,fX,j6]
      cases hh:qq.isHole with
      | true=>exact hb (Hg hh)
      | false =>
       simp only [Bool.not_false,if_true]
       rw [<- ez]
       refine Oy (cs:=cs) (acc:=ac) (q:=qq) aD hT.cls.ok hac hqf ?_
       cases hk:ac.any (fun e=>PyData.eqv (bM e) (bM qq)) with
       | true=>exact hb (Eo hh hk)
       | false =>
        simp only [Bool.not_false,if_true]
        subst hA
        simp! only [fM,jG,dG,gT,eR,eI,lZ,eX,fX,j6]
        have hc6:=hT.cls.len
        refine ⟨EX,big (by rw [List.length_append,List.length_map,List.length_map];omega),?_⟩
        rw [B5 hh hk]
        exact ⟨_,rfl,by simp⟩
    ·rintro τ Mi ⟨z4,rfl,rfl⟩
     have hl3:ql.take (Src.mk none (ql.map Pt.toU)).xs.length=ql:=by
      show ql.take (ql.map Pt.toU).length=ql
      rw [List.length_map];exact List.take_length
     rw [hl3]
     exact ⟨_,_,_,rfl,rfl⟩
 ·rintro τ Mi ⟨z2,z3,z4,rfl,rfl⟩
  have hl2:tls.take (Src.mk none (tls.map Tl.toU)).xs.length=tls:=by
   show tls.take (tls.map Tl.toU).length=tls
   rw [List.length_map];exact List.take_length
  rw [hl2]
  subst hV
  simp! only [bV,jG,dG,gT,eR,eI,lZ,eX,fX,j6]
  exact aW (q p hp)
end
end K50
namespace K50
open PySem L2 U2
def isLetter (c:Nat):Bool:=decide (c < 1000)
def isName:U->Bool
 | .str z=>decide (1<=z.length) && decide (z.length<=8) && z.cps.toList.all isLetter
 | _=>false
theorem N8 {x:Str} (h:isName (.str x)=true):PyData.strOk x=true:=by
 simp only [isName,Bool.and_eq_true,decide_eq_true_eq,List.all_eq_true,isLetter] at h
 unfold PyData.strOk
 rw [Array.all_eq_true_iff_forall_mem]
 intro c hc
 have:=h.2 c (by simpa using hc)
 exact decide_eq_true (by omega)
section
variable {P:Program} {w:World} {K:PySem.W.Frag} {mg:Str->Option Value} {base:Heap} {f d d2 fl:Addr} {fd:FuncData}
def bF (d x:Int):List U:=[.int d,.int x]
def Ib:bG:=fun us M Q=>∃ (ns:List Int) (k:Nat),us=[.lst (ns.map U.int),.int (k:Int)]/\k<=100/\∀ (r:Addr) (d x:Int),M r=none->0<=d->0<=x->x<=2147484647->Q (.ref r) (mup M r (.lst (bF d x)))
def jW:bG:=fun us M Q=>∃ (f:Addr) (d x m:Int),us=[.ref f,.int m]/\M f=some (.lst (bF d x))/\0<=d/\0<=x/\x<=2147484647/\0 < m/\m < 2 ^ 64/\∀ n d' x':Int,0<=n->n < m->0<=d'->0<=x'->x'<=2147484647->Q (.int n) (mup M f (.lst (bF d' x')))
local macro_rules | `(tactic| dsimp! only [$xs,*] $[$l]?) => `(tactic| simp only [$xs,*, Bool.false_eq_true, Bool.not_false, Bool.not_true, List.append_nil, List.cons_append, List.getElem?_cons_succ, List.getElem?_cons_zero, List.length_cons, List.length_nil, List.map_cons, List.map_nil, List.nil_append, List.replicate, List.set_cons_succ, List.set_cons_zero, Nat.add_sub_cancel, Nat.reduceAdd, Nat.reduceLeDiff, Nat.reduceSub, Nat.sub_self, Option.getD_some, Option.some.injEq, and_true, Mh, LP, at2, Mt, Ff, FV, BY, sV, BZ, w6, sP, zQ, FC, pU, IG, Iq, Hi, L0, fG, decide_false, decide_true, u4, u9, exists_eq_left', Sn, Mr, if_false, if_true, Gn, dG, iB, iF, iC, i4, h9, i8, gY, lI, lE, lY, kX, mK, kB, kT, lH, mN, lG, mL, kA, mU, mJ, nZ, mX, nT, kS, lD, kZ, m5, lF, mI, jZ, mW, m4, n0, mP, nR, lA, kF, kG, kY, kE, lJ, jQ, items, gT, nA, zM, nQ, GY, yS, iH, aV, aD, reduceCtorEq, eS, Mj, true_and, DC, xB, sE, zY, vN, Bd, Fu, uC, CQ, qB, rM, uQ, qX, n6, vA, rD, Fm, uI, tT, Es, jG, xF, tF, Cn, eI, LG, Ax, zX, wQ, Gv, uZ, pI, Az, tD, BR, mG, EI, GV, vU, lZ, vY, BO, zO, sX, Ap, Ab, LK, oU, Ad, C3, GX, Ft, BP, xP, xR, yE, uF, yX, yO] $[$l]?)
theorem NQ (F:cK K "_law_take" "_law_take" j8 f fd) (hm:mg "_law_take"=some (.ref f)):Callee P w K mg base 1 "_law_take" jW []:=by
 refine bP F hm wH (t8 fun _ _ _ _ _ _ _ _=>rfl) (aE (cM (bW Lh (aQ (uv 0) aP) aP)
 (aE (aS 2 wH.nd (qY (aQ (uv 0) aP) (uv 1)))
 (aE (rF (EC (aQ (uv 0) aP) (uv 1)) (uv 0) aP)
 (aL (bD (uv 2)))))
 bQ)
 (aE (rF (qY (cG (own:=false) (iS (own:=false) (aQ (uv 0) aP) aP) aP) aP) (uv 0) aP)
 (aL (bD (qY (EC (aQ (uv 0) aP) aP) (uv 1)))))) ?_
 rintro us M Q ⟨r,d,x,m,rfl,hM,hd,hx,hx2,hm0,hm1,q⟩
 refine ⟨rfl,?_⟩
 have vr:view M (.ref r)=.lst (bF d x):=bT hM
 refine aI fun V hV=>?_
 refine cB fun A B hA hB=>?_
 dsimp! only [vr,bF]
 refine iI (fun h=>?_) (fun h=>?_)
 ·subst hA
  refine aI fun V2 hV2=>?_
  dsimp! only [bC,hName,vr,bF]
  refine ⟨hm0,?_⟩
  subst hV2
  refine aI fun V2 hV2=>?_
  dsimp! only [nS,vr,bF]
  rw [hM]
  dsimp! only [bF]
  refine ⟨⟨hm0,hm1⟩,0,rfl,?_⟩
  subst hV2
  dsimp! only [bV]
  exact aW (q (d % m) (d / m) x (Int.emod_nonneg _ (by omega)) (Int.emod_lt_of_pos _ hm0) (Int.ediv_nonneg hd (by omega)) hx hx2)
 ·subst hB
  simp only [cA]
  subst hV
  refine aI fun V2 hV2=>?_
  dsimp! only [nS,vr,bF]
  rw [hM]
  refine ⟨mulR (by decide) (by decide),by decide,1,rfl,?_⟩
  have hxx:0<=(x * 69621 + 12345) % 2147483647/\(x * 69621 + 12345) % 2147483647<=2147484647:=by omega
  generalize (x * 69621 + 12345) % 2147483647=y at hxx
  have hy:mup M r (.lst ([U.int d,U.int x].set 1 (.int y)))=mup M r (.lst (bF d y)):=rfl
  show V2 _ (mup M r (.lst ([U.int d,U.int x].set 1 (.int y))))
  rw [hy]
  subst hV2
  have v2:view (mup M r (.lst (bF d y))) (.ref r)=.lst (bF d y):=bT aD
  dsimp! only [bV,v2,bF]
  exact ⟨⟨by decide,by decide⟩,hm0,aW (q (y / 8191 % m) d y (Int.emod_nonneg _ (by omega)) (Int.emod_lt_of_pos _ hm0) hd hxx.1 hxx.2)⟩
theorem N4 (F:cK K "_law_feed" "_law_feed" jY f fd) (hm:mg "_law_feed"=some (.ref f)) (bB:mg "len"=none):Callee P w K mg base 1 "_law_feed" Ib []:=by
 refine bP F hm kO (t8 fun _ _ _ _ _ _ _ _=>rfl) (aE (aS 2 kO.nd aP)
 (aE (cM (bW pD (uv 1) (dX dO bB (aA (uv 0) aB)))
 (aL (aS 2 kO.nd (aQ (uv 0) (uv 1))))
 bQ)
 (aE (aS 3 kO.nd aP)
 (aE (cM (bW RS (uv 2) (xQ aP aP))
 (aL (aS 3 kO.nd (gG (uv 2) (xQ aP aP))))
 bQ)
 (aL (bD (cF (own:=true) (aA (uv 3) (aA (cG (own:=false) (cG (own:=false) (qY (iS (own:=false) (qY (uv 2) aP) aP) aP) (iS (own:=false) aP (uv 1))) aP) aB))))))))) ?_
 rintro us M Q ⟨ns,k,rfl,hk,q⟩
 refine ⟨rfl,?_⟩
 refine aI fun V hV=>?_
 dsimp! only [bC,hName]
 subst hV
 refine aI fun V hV=>?_
 have rest:∀ c:Int,V [some (.lst (ns.map U.int)),some (.int (k:Int)),some (.int c),none] M:=by
  intro c
  subst hV
  refine aI fun V hV=>?_
  dsimp! only [bC,hName]
  subst hV
  refine aI fun V hV=>?_
  have last:∀ d:Int,0<=d->V [some (.lst (ns.map U.int)),some (.int (k:Int)),some (.int c),some (.int d)] M:=by
   intro d hd
   subst hV
   dsimp! only [bV]
   refine ⟨by decide,mulR (by decide) (by decide),by decide,mulL (by decide) (by decide),fun r hr=>?_⟩
   have h1:=Int.emod_nonneg (c % 2147483647 * 48271) (show (2147483647:Int)≠0 by decide)
   have h2:=Int.emod_lt_of_pos (c % 2147483647 * 48271) (show (0:Int) < 2147483647 by decide)
   exact aW (q r d _ hr hd (by omega) (by omega))
  refine cB fun A B hA hB=>?_
  dsimp! only [true_and]
  refine ⟨⟨by decide,by decide⟩,iI (fun h=>?_) (fun h=>?_)⟩
  ·subst hA
   dsimp! only [bC,hName]
   have h':=of_decide_eq_true h
   exact ⟨⟨by decide,by decide,by decide⟩,last _ (Int.sub_nonneg.mpr h')⟩
  ·subst hB
   simp only [cA]
   exact last 0 (by decide)
 refine cB fun A B hA hB=>?_
 dsimp! only [List.length_map]
 refine iI (fun h=>?_) (fun h=>?_)
 ·subst hA
  have hlt:k < ns.length:=by have:=of_decide_eq_true h;omega
  have hat:dP (ns.map U.int) (k:Int)=some (.int ns[k]):=eL (by rw [List.getElem?_map,List.getElem?_eq_getElem hlt];rfl)
  dsimp! only [bC,hName,hat]
  exact rest _
 ·subst hB
  simp only [cA]
  exact rest 0
def xC:bG:=fun us M Q=>∃ (f:Addr) (d x:Int) (m:Nat),us=[.ref f,.int (m:Int)]/\M f=some (.lst (bF d x))/\0<=d/\0<=x/\x<=2147484647/\m<=30/\∀ (names:List Str) (d' x':Int),names.length=m->(∀ s∈names,isName (.str s)=true)->0<=d'->0<=x'->x'<=2147484647->Q (.lst (names.map U.str)) (mup M f (.lst (bF d' x')))
def sL:Str:=Str.ofString "abcdefghijklmnopqrstuvwxyz"
theorem Ha {n:Int} (h0:0<=n) (h1:n < 26):∃ c,dP sL.cps.toList n=some c/\isLetter c=true:=by
 have hl:sL.cps.toList.length=26:=by decide +kernel
 have hlt:n.toNat < sL.cps.toList.length:=by omega
 refine ⟨sL.cps.toList[n.toNat],?_,?_⟩
 ·have:=eL (xs:=sL.cps.toList) (j:=n.toNat) (List.getElem?_eq_getElem hlt)
  rw [Int.toNat_of_nonneg h0] at this
  exact this
 ·have hall:sL.cps.toList.all isLetter=true:=by decide +kernel
  exact List.all_eq_true.mp hall _ (List.getElem_mem hlt)
theorem CU (c:Nat):∀ (k:Nat) (acc:Array Nat),((List.replicate k (#[c]:Array Nat)).foldl (·++·) acc).toList=acc.toList++List.replicate k c
 | 0,acc=>by simp
 | k + 1,acc=>by
  rw [List.replicate_succ,List.foldl_cons,CU c k,List.replicate_succ]
  simp
theorem u7 (c:Nat) (n:Int):(jM ⟨#[c]⟩ n).cps.toList=List.replicate n.toNat c:=by
 unfold jM
 by_cases h:n < 1
 ·rw [if_pos h,show n.toNat=0 by omega];rfl
 ·rw [if_neg h]
  by_cases h1:n=1
  ·subst h1;rfl
  ·rw [if_neg (by
    have:((n == 1)=false):=by simp [h1]
    rw [this]
    exact Bool.false_ne_true)]
   have:=CU c n.toNat #[]
   simpa using this
theorem NA {z:Str} {l:List Nat} (e:z.cps.toList=l) (h:∀ c∈l,isLetter c=true) (h1:1<=l.length) (h8:l.length<=8):isName (.str z)=true:=by
 have hl:z.length=l.length:=by rw [<- e];rfl
 simp only [isName,Bool.and_eq_true,decide_eq_true_eq]
 exact ⟨⟨by omega,by omega⟩,by rw [e];exact List.all_eq_true.mpr h⟩
theorem step_at {n:Int} (h0:0<=n) (h1:n < 6):∃ k:Int,dP [U.int 1,U.int 3,U.int 5,U.int 7,U.int 9,U.int 11] n=some (.int k)/\0<=k/\k<=11:=by
 have e:n=0\/n=1\/n=2\/n=3\/n=4\/n=5:=by omega
 rcases e with rfl | rfl | rfl | rfl | rfl | rfl <;> exact ⟨_,rfl,by omega,by omega⟩
theorem HB (F:cK K "_law_unlike" "_law_unlike" iP f fd) (hm:mg "_law_unlike"=some (.ref f)) (cQ:mg "range"=none) (aO:Callee P w K mg base 1 "_law_take" jW []):Callee P w K mg base 2 "_law_unlike" xC []:=by
 refine bP F hm eO (t8 fun _ _ _ _ _ _ _ _=>rfl) (aE (aS 2 eO.nd fV)
 (aE (aS 3 eO.nd (aQ (uv 2) (aK aO (aA (uv 0) (aA aP aB)))))
 (aE (aS 4 eO.nd (aK aO (aA (uv 0) (aA aP aB))))
 (aE (aS 5 eO.nd (aQ (cF (own:=false) (aA aP (aA aP (aA aP (aA aP (aA aP (aA aP aB))))))) (aK aO (aA (uv 0) (aA aP aB)))))
 (aE (aS 6 eO.nd (cG (own:=false) aP (aK aO (aA (uv 0) (aA aP aB)))))
 (aE (aS 7 eO.nd (aK aO (aA (uv 0) (aA (uv 6) aB))))
 (aE (aS 8 eO.nd (iS (own:=false) (uv 3) (gG (gG (uv 6) aP) (uv 7))))
 (aL (bD (nJ false ["k","back","filler","place","letters","first","step"] 1 [8,3,7,2,4,5] (nO cQ (aA (uv 1) aB)) (aU (k:=1) 0 (by dsimp only [bR];decide +kernel)) jJ (cG (own:=false) (cG (own:=false) (iS (own:=false) (uv 2) (uv 3)) (aQ (uv 4) (qY (cG (own:=false) (uv 5) (iS (own:=false) (uv 6) (uv 0))) aP))) (uv 1)))))))))))) ?_
 rintro us M Q ⟨r,d,x,m,rfl,hM,hd,hx,hx2,hm3,q⟩
 refine ⟨rfl,?_⟩
 refine aI fun V hV=>?_
 dsimp! only [bC,hName]
 subst hV
 refine aI fun V hV=>?_
 dsimp! only [bC,hName]
 refine ⟨r,d,x,26,rfl,hM,hd,hx,hx2,by decide,by decide,fun n1 d1 x1 a1 b1 c1 c2 c3=>?_⟩
 obtain ⟨cf,hcf,hlf⟩:=Ha a1 b1
 dsimp! only [true_and]
 have habc:(Str.ofString "abcdefghijklmnopqrstuvwxyz").length<=sizeLine:=by decide +kernel
 refine ⟨habc,cf,hcf,?_⟩
 subst hV
 refine aI fun V hV=>?_
 dsimp! only [bC,hName]
 refine ⟨r,d1,x1,26,rfl,aD,c1,c2,c3,by decide,by decide,fun n2 d2 x2 a2 b2 f1 f2 f3=>?_⟩
 rw [aV]
 subst hV
 refine aI fun V hV=>?_
 dsimp! only [bC,hName]
 refine ⟨r,d2,x2,6,rfl,aD,f1,f2,f3,by decide,by decide,fun n3 d3 x3 a3 b3 g1 g2 g3=>?_⟩
 rw [aV]
 obtain ⟨sp,hsp,hs0,hs1⟩:=step_at a3 b3
 dsimp! only [hsp]
 subst hV
 refine aI fun V hV=>?_
 dsimp! only [bC,hName]
 refine ⟨r,d3,x3,8,rfl,aD,g1,g2,g3,by decide,by decide,fun n4 d4 x4 a4 b4 k1 k2 k3=>?_⟩
 rw [aV]
 dsimp! only [true_and]
 subst hV
 refine aI fun V hV=>?_
 dsimp! only [bC,hName]
 refine ⟨r,d4,x4,1 + n4,rfl,aD,k1,k2,k3,by omega,by omega,fun n5 d5 x5 a5 b5 l1 l2 l3=>?_⟩
 rw [aV]
 subst hV
 refine aI fun V hV=>?_
 dsimp! only [bC,hName]
 have h1c:(⟨#[cf]⟩:Str).length=1:=rfl
 refine ⟨by omega,by omega,by rw [h1c];decide,by rw [h1c];omega,?_⟩
 subst hV
 dsimp! only [bV]
 generalize hMM:mup M r (.lst (bF d5 x5))=MM
 let ck:Nat->Nat:=fun k=>(dP sL.cps.toList ((n2 + sp * (k:Int)) % 26)).getD 0
 have hck:∀ k:Nat,dP sL.cps.toList ((n2 + sp * (k:Int)) % 26)=some (ck k)/\isLetter (ck k)=true:=fun k=>by
  obtain ⟨c,h1,h2⟩:=Ha (Int.emod_nonneg (n2 + sp * (k:Int)) (show (26:Int)≠0 by decide)) (Int.emod_lt_of_pos _ (by decide))
  have e:ck k=c:=by show (dP sL.cps.toList ((n2 + sp * (k:Int)) % 26)).getD 0=c;rw [h1];rfl
  rw [e];exact ⟨h1,h2⟩
 let nk:Nat->Str:=fun k=>jM ⟨#[cf]⟩ n5++⟨#[ck k]⟩++jM ⟨#[cf]⟩ (1 + n4 - 1 - n5)
 have hnl:∀ k,(nk k).cps.toList=List.replicate n5.toNat cf++[ck k]++List.replicate (1 + n4 - 1 - n5).toNat cf:=fun k=>by
  show (jM ⟨#[cf]⟩ n5++⟨#[ck k]⟩++jM ⟨#[cf]⟩ (1 + n4 - 1 - n5)).cps.toList=_
  rw [rZ,rZ,u7,u7]
 have hnn:∀ k,isName (.str (nk k))=true:=fun k=>by
  refine NA (hnl k) (fun c hc=>?_) (by simp;omega) (by simp;omega)
  simp only [List.mem_append,List.mem_replicate,List.mem_singleton] at hc
  rcases hc with (⟨_,rfl⟩ | rfl) | ⟨_,rfl⟩
  ·exact hlf
  ·exact (hck k).2
  ·exact hlf
 have hrl:∀ n:Int,n<=8->(jM ⟨#[cf]⟩ n).length<=8:=fun n h=>by
  have e:(jM ⟨#[cf]⟩ n).length=(jM ⟨#[cf]⟩ n).cps.toList.length:=rfl
  rw [e,u7,List.length_replicate];omega
 have hr1:=hrl n5 (by omega)
 have hr2:=hrl (1 + n4 - 1 - n5) (by omega)
 refine gS (S:=⟨none,eF 0 m⟩) (M1:=MM) ((List.range m).map fun k=>.str (nk k)) (fun R r=>by dsimp! only [true_and];exact ⟨by omega,by omega,by simpa using r⟩) (by rw [List.length_map,List.length_range];show _=(eF 0 m).length;rw [gX]) (small (by show (eF 0 m).length<=_;rw [gX];omega)) (fun a e=>by cases e) ?_ ?_
 ·intro j x y hx hy M' hS R r'
  obtain ⟨rfl,hj⟩:=iY hx
  rw [List.getElem?_map,List.getElem?_range hj] at hy
  cases hy
  dsimp! only [hName]
  have e0:(0:Int) + (j:Int)=(j:Int):=by omega
  rw [e0]
  have hl2:(jM ⟨#[cf]⟩ n5++⟨#[ck j]⟩:Str).length<=100:=by
   have e:(jM ⟨#[cf]⟩ n5++⟨#[ck j]⟩:Str).length=(jM ⟨#[cf]⟩ n5++⟨#[ck j]⟩:Str).cps.toList.length:=rfl
   rw [e,rZ,u7];simp;omega
  have h1j:(⟨#[ck j]⟩:Str).length=1:=rfl
  refine ⟨by omega,by omega,by rw [h1c];decide,by rw [h1c];omega,mulL (by omega) (by omega),by decide,habc,ck j,(hck j).1,small (by rw [h1j];omega),small (by omega),r'⟩
 ·dsimp! only [true_and]
  rw [<- hMM]
  have e:(List.range m).map (fun k=>U.str (nk k))=((List.range m).map nk).map U.str:=by rw [List.map_map];rfl
  rw [e]
  exact aW (q ((List.range m).map nk) d5 x5 (by simp) (fun s hs=>by
   obtain ⟨k,_,rfl⟩:=List.mem_map.mp hs
   exact hnn k) l1 l2 l3)
theorem N6 {n:Int} (h0:0<=n) (h1:n < 4):∃ o:Op,dP [U.str (Str.ofString "sum"),U.str (Str.ofString "less"),U.str (Str.ofString "by"),U.str (Str.ofString "sum")] n=some (.str o.word):=by
 have e:n=0\/n=1\/n=2\/n=3:=by omega
 rcases e with rfl | rfl | rfl | rfl
 ·exact ⟨.sum,rfl⟩
 ·exact ⟨.less,rfl⟩
 ·exact ⟨.by_,rfl⟩
 ·exact ⟨.sum,rfl⟩
theorem G7 {a b:U} {n:Int} (h0:0<=n) (h1:n < 2):dP [a,b] n=some a\/dP [a,b] n=some b:=by
 have e:n=0\/n=1:=by omega
 rcases e with rfl | rfl
 ·exact .inl rfl
 ·exact .inr rfl
theorem zS {α β:Type} (g:α->β) (l:List α) (a b:Option Int):gE (l.map g) a b=(gE l a b).map g:=by
 unfold gE
 rw [List.length_map,List.map_take,List.map_drop]
theorem Qt {α:Type} (l:List α) {j:Nat} (h:j<=l.length):gE l (some (j:Int)) none=l.drop j:=by
 unfold gE
 have e:HT.bK l.length 0 (some (j:Int))=j:=by
  simp only [HT.bK];rw [if_neg (by omega)];omega
 have e2:HT.bK l.length l.length none=l.length:=rfl
 rw [e,e2,List.take_of_length_le (by rw [List.length_drop];omega)]
theorem HN {α:Type} (l:List α) {j:Nat} (h:j<=l.length):gE l none (some (j:Int))=l.take j:=by
 unfold gE
 have e:HT.bK l.length l.length (some (j:Int))=j:=by
  simp only [HT.bK];rw [if_neg (by omega)];omega
 rw [e];simp [HT.bK]
inductive Wt where
 | num (n:Int) | name (x:Str) | piece (k:Int) | turn (a:Wt) | two (o:Op) (a b:Wt)
def Wt.toU:Wt->U
 | .num n=>.tup [.str (Str.ofString "num"),.int n]
 | .name x=>.tup [.str (Str.ofString "name"),.str x]
 | .piece k=>.tup [.str (Str.ofString "piece"),.int k]
 | .turn a=>.tup [.str (Str.ofString "turn"),a.toU]
 | .two o a b=>.tup [.str o.word,a.toU,b.toU]
def Wt.size:Wt->Nat
 | .turn a=>a.size + 1
 | .two _ a b=>a.size + b.size + 1
 | _=>1
def Wt.dep:Wt->Nat
 | .turn a=>a.dep + 1
 | .two _ a b=>max a.dep b.dep + 1
 | _=>1
def Wt.good (m:Int):Wt->Prop
 | .num n=>0<=n/\n<=1000000000000000000
 | .name x=>isName (.str x)=true
 | .piece k=>0<=k/\k < m
 | .turn a=>a.good m
 | .two _ a b=>a.good m/\b.good m
def rS (n:Nat):bG:=fun us M Q=>∃ (f:Addr) (d x:Int) (names:List Str) (k m:Nat),us=[.ref f,.lst (names.map U.str),.int (k:Int),.int (m:Int)]/\M f=some (.lst (bF d x))/\0<=d/\0<=x/\x<=2147484647/\k < n/\k<=10/\m<=10/\1<=names.length/\names.length<=3/\(∀ s∈names,isName (.str s)=true)/\∀ (t:Wt) (d' x':Int),t.good m->t.dep<=k + 1->t.size + 1<=2 ^ (k + 1)->0<=d'->0<=x'->x'<=2147484647->Q t.toU (mup M f (.lst (bF d' x')))
theorem MV {n:Nat} (F:cK K "_law_tree" "_law_tree" i7 f fd) (hm:mg "_law_tree"=some (.ref f)) (bB:mg "len"=none) (aO:Callee P w K mg base 1 "_law_take" jW []) (mY:Callee P w K mg base (n + 1) "_law_tree" (rS n) []):Callee P w K mg base (n + 2) "_law_tree" (rS (n + 1)) []:=by
 refine bP F hm oA (He fun _ _ _ _ _ _ _ _ _ _=>rfl) (aE (aS 4 oA.nd (aK aO (aA (uv 0) (aA aP aB))))
 (aE (cM (lW.pt (mZ (bW Lh (uv 3) aP) (lV (bW pD (uv 4) aP))))
 (aL (bD (bZ (aA fV (aA (aQ (cF (own:=false) (aA (gG (uv 3) aP) (aA (aK aO (aA (uv 0) (aA (uv 3) aB))) aB))) (aK aO (aA (uv 0) (aA aP aB)))) aB)))))
 bQ)
 (aE (cM (lW.pt (BL (bW j9 (uv 2) aP) (yK (bW pD (uv 4) aP))))
 (aE (aS 5 oA.nd (aK aO (aA (uv 0) (aA aP aB))))
 (aE (cM (bW j9 (uv 5) aP)
 (aL (bD (bZ (aA fV (aA (aQ (cF (own:=false) (aA (aK aO (aA (uv 0) (aA aP aB))) (aA (aK aO (aA (uv 0) (aA (cG (own:=false) (xQ aP aP) aP) aB))) aB))) (aK aO (aA (uv 0) (aA aP aB)))) aB)))))
 bQ)
 (aL (bD (bZ (aA fV (aA (aQ (uv 1) (aK aO (aA (uv 0) (aA (dX dO bB (aA (uv 1) aB)) aB)))) aB)))))))
 bQ)
 (aE (cM (bW j9 (uv 4) aP)
 (aL (bD (bZ (aA fV (aA (aK mY (aA (uv 0) (aA (uv 1) (aA (gG (uv 2) aP) (aA (uv 3) aB))))) aB)))))
 bQ)
 (aE (aS 6 oA.nd (aQ (cF (own:=false) (aA fV (aA fV (aA fV (aA fV aB))))) (gG (uv 4) aP)))
 (aL (bD (bZ (aA (uv 6) (aA (aK mY (aA (uv 0) (aA (uv 1) (aA (gG (uv 2) aP) (aA (uv 3) aB))))) (aA (aK mY (aA (uv 0) (aA (uv 1) (aA (gG (uv 2) aP) (aA (uv 3) aB))))) aB))))))))))) ?_
 rintro us M Q ⟨r,d,x,names,k,m,rfl,hM,hd,hx,hx2,hk,hk10,hm10,hn1,hn3,hnm,q⟩
 refine ⟨rfl,?_⟩
 have hpw:2<=2 ^ (k + 1):=by rw [Nat.pow_succ];have:=Nat.one_le_two_pow (n:=k);omega
 refine aI fun V hV=>?_
 dsimp! only [bC,hName]
 refine ⟨r,d,x,10,rfl,hM,hd,hx,hx2,by decide,by decide,fun w d1 x1 a1 b1 c1 c2 c3=>?_⟩
 subst hV
 refine aI fun V hV=>?_
 refine cB fun A B hA hB=>?_
 have goB:B (mup M r (.lst (bF d1 x1))):=by
  subst hB
  simp only [cA]
  subst hV
  refine aI fun V hV=>?_
  refine cB fun A B hA hB=>?_
  have goA:A (mup M r (.lst (bF d1 x1))):=by
   subst hA
   refine aI fun V2 hV2=>?_
   dsimp! only [bC,hName]
   refine ⟨r,d1,x1,3,rfl,aD,c1,c2,c3,by decide,by decide,fun l d2 x2 a2 b2 f1 f2 f3=>?_⟩
   rw [aV]
   subst hV2
   refine aI fun V2 hV2=>?_
   refine cB fun A B hA hB=>?_
   dsimp! only [true_and]
   refine iI (fun _=>?_) (fun _=>?_)
   ·subst hA
    dsimp! only [bV]
    refine ⟨r,d2,x2,6,rfl,aD,f1,f2,f3,by decide,by decide,fun p d3 x3 a3 b3 g1 g2 g3=>?_⟩
    rw [aV]
    dsimp! only [true_and]
    refine ⟨⟨by decide,by decide,by decide⟩,r,d3,x3,1000000000000000001,rfl,aD,g1,g2,g3,by decide,by decide,fun p2 d4 x4 a4 b4 l1 l2 l3=>?_⟩
    rw [aV]
    dsimp! only [true_and]
    refine ⟨r,d4,x4,2,rfl,aD,l1,l2,l3,by decide,by decide,fun p3 d5 x5 a5 b5 m1 m2 m3=>?_⟩
    rw [aV]
    rcases G7 (a:=U.int p) (b:=U.int p2) a5 b5 with h | h
    ·dsimp! only [h]
     exact aW (q (.num p) d5 x5 ⟨a3,by omega⟩ (by simp [Wt.dep]) (by simp only [Wt.size];omega) m1 m2 m3)
    ·dsimp! only [h]
     exact aW (q (.num p2) d5 x5 ⟨a4,by omega⟩ (by simp [Wt.dep]) (by simp only [Wt.size];omega) m1 m2 m3)
   ·subst hB
    simp only [cA]
    subst hV2
    dsimp! only [bV,List.length_map]
    refine ⟨r,d2,x2,names.length,rfl,aD,f1,f2,f3,by omega,by omega,fun i d3 x3 a3 b3 g1 g2 g3=>?_⟩
    rw [aV]
    have hlt:i.toNat < names.length:=by omega
    have hat:dP (names.map U.str) i=some (.str names[i.toNat]):=by
     have:=eL (xs:=names.map U.str) (j:=i.toNat) (v:=.str names[i.toNat]) (by rw [List.getElem?_map,List.getElem?_eq_getElem hlt];rfl)
     rw [Int.toNat_of_nonneg a3] at this
     exact this
    exact ⟨_,hat,aW (q (.name names[i.toNat]) d3 x3 (hnm _ (List.getElem_mem hlt)) (by simp [Wt.dep]) (by simp only [Wt.size];omega) g1 g2 g3)⟩
  dsimp! only [true_and]
  refine iI (fun _=>goA) (fun h=>?_)
  refine iI (fun _=>goA) (fun h5=>?_)
  have hk0:k≠0:=fun z=>h (by subst z;rfl)
  obtain ⟨k',rfl⟩:∃ k',k=k' + 1:=⟨k - 1,by omega⟩
  have ek:((k' + 1:Nat):Int) - 1=(k':Int):=by push_cast;omega
  have hw5:5<=w:=by
   have:¬ w < 5:=fun z=>h5 (by simpa using z)
   omega
  subst hB
  simp only [cA]
  subst hV
  refine aI fun V hV=>?_
  refine cB fun A B hA hB=>?_
  dsimp! only [true_and]
  refine iI (fun _=>?_) (fun hne=>?_)
  ·subst hA
   dsimp! only [bV,ek]
   refine ⟨r,d1,x1,names,k',m,rfl,aD,c1,c2,c3,by omega,by omega,hm10,hn1,hn3,hnm,fun t d2 x2 ht hdp hsz f1 f2 f3=>?_⟩
   rw [aV]
   dsimp! only [true_and]
   exact aW (q (.turn t) d2 x2 ht (by simp only [Wt.dep];omega) (by simp only [Wt.size];rw [Nat.pow_succ];have:=Nat.one_le_two_pow (n:=k' + 1);omega) f1 f2 f3)
  ·subst hB
   simp only [cA]
   subst hV
   refine aI fun V hV=>?_
   have hw6:w≠5:=fun z=>hne (decide_eq_true z)
   obtain ⟨o,ho⟩:=N6 (n:=w - 6) (by omega) (by omega)
   dsimp! only [bC,hName,ho]
   subst hV
   dsimp! only [bV,ek]
   refine ⟨r,d1,x1,names,k',m,rfl,aD,c1,c2,c3,by omega,by omega,hm10,hn1,hn3,hnm,fun t d2 x2 ht hdp hsz f1 f2 f3=>?_⟩
   rw [aV]
   dsimp! only [ek]
   refine ⟨r,d2,x2,names,k',m,rfl,aD,f1,f2,f3,by omega,by omega,hm10,hn1,hn3,hnm,fun t2 d3 x3 ht2 hdp2 hsz2 g1 g2 g3=>?_⟩
   rw [aV]
   dsimp! only [true_and]
   exact aW (q (.two o t t2) d3 x3 ⟨ht,ht2⟩ (by simp only [Wt.dep];omega) (by simp only [Wt.size];rw [Nat.pow_succ];omega) g1 g2 g3)
 dsimp! only [true_and]
 refine iI (fun hmp=>?_) (fun _=>goB)
 refine iI (fun _=>?_) (fun _=>goB)
 have hm0:0 < m:=by have:=of_decide_eq_true hmp;omega
 subst hA
 dsimp! only [bV]
 refine ⟨r,d1,x1,(m:Int),rfl,aD,c1,c2,c3,by omega,by omega,fun p d2 x2 a2 b2 f1 f2 f3=>?_⟩
 rw [aV]
 dsimp! only [true_and]
 refine ⟨r,d2,x2,2,rfl,aD,f1,f2,f3,by decide,by decide,fun p3 d5 x5 a5 b5 m1 m2 m3=>?_⟩
 rw [aV]
 rcases G7 (a:=U.int ((m:Int) - 1)) (b:=U.int p) a5 b5 with h | h
 ·dsimp! only [h]
  exact aW (q (.piece ((m:Int) - 1)) d5 x5 ⟨by omega,by omega⟩ (by simp [Wt.dep]) (by simp only [Wt.size];omega) m1 m2 m3)
 ·dsimp! only [h]
  exact aW (q (.piece p) d5 x5 ⟨a2,b2⟩ (by simp [Wt.dep]) (by simp only [Wt.size];omega) m1 m2 m3)
theorem Dq (F:cK K "_law_tree" "_law_tree" i7 f fd) (hm:mg "_law_tree"=some (.ref f)) (bB:mg "len"=none) (aO:Callee P w K mg base 1 "_law_take" jW []):∀ n,Callee P w K mg base (n + 1) "_law_tree" (rS n) []
 | 0=>by
  have no:∀ us M Q,¬ rS 0 us M Q:=fun us M Q h=>by
   obtain ⟨_,_,_,_,_,_,_,_,_,_,_,h,_⟩:=h
   omega
  refine ⟨f,fd,["feed","names","deep","number"],[],[],⟨fun vs H Q E h=>?_,fun A outer s H args us vs Q E _ _ _ _ h=>?_⟩,hm,F.kp,F.binds (He fun _ _ _ _ _ _ _ _ _ _=>rfl),.nil,fun H M=>.nil⟩
  ·obtain ⟨us,M,Q',_,_,h,_⟩:=h;exact absurd h (no us M Q')
  ·obtain ⟨us,M,Q',_,_,h,_⟩:=h;exact absurd h (no us M Q')
 | n + 1=>MV F hm bB aO (Dq F hm bB aO n)
def Mp (ts:List Wt) (k:Nat):Prop:=∀ (i:Nat) (t:Wt),ts[i]?=some t->t.good i/\t.dep<=k + 1/\t.size + 1<=2 ^ (k + 1)
theorem MJ {ts:List Wt} {t:Wt} {k:Nat} (h:Mp ts k) (ht:t.good ts.length/\t.dep<=k + 1/\t.size + 1<=2 ^ (k + 1)):Mp (ts++[t]) k:=by
 intro i u hu
 by_cases hi:i < ts.length
 ·rw [List.getElem?_append_left hi] at hu;exact h i u hu
 ·rw [List.getElem?_append_right (by omega)] at hu
  obtain ⟨j,hj⟩:∃ j,i - ts.length=j:=⟨_,rfl⟩
  rw [hj] at hu
  match j,hu with
  | 0,hu =>
   cases hu
   have:i=ts.length:=by omega
   rw [this];exact ht
def LZ:bG:=fun us M Q=>∃ (f:Addr) (d x:Int) (m k:Nat),us=[.ref f,.int (m:Int),.int (k:Int)]/\M f=some (.lst (bF d x))/\0<=d/\0<=x/\x<=2147484647/\k<=9/\m<=10/\∀ (ts:List Wt) (d' x':Int),ts.length=m->Mp ts k->0<=d'->0<=x'->x'<=2147484647->Q (.tup (ts.map Wt.toU)) (mup M f (.lst (bF d' x')))
theorem OS (F:cK K "_law_web" "_law_web" lR f fd) (hm:mg "_law_web"=some (.ref f)) (cQ:mg "range"=none) (eK:mg "tuple"=none) (aO:Callee P w K mg base 1 "_law_take" jW []) (m7:Callee P w K mg base 2 "_law_unlike" xC []) (mY:Callee P w K mg base 11 "_law_tree" (rS 10) []):Callee P w K mg base 12 "_law_web" LZ []:=by
 refine bP F hm yF (q9 fun _ _ _ _ _ _ _ _ _=>rfl) (aE (aS 3 yF.nd (aK m7 (aA (uv 0) (aA (cG (own:=false) aP (aK aO (aA (uv 0) (aA aP aB)))) aB))))
 (aL (bD (sG pJ eK (aA (nJ false ["number","feed","names","deep"] 1 [0,3,2] (nO cQ (aA (uv 1) aB)) (aU (k:=1) 0 (by dsimp only [bR];decide +kernel)) jJ (aK mY (aA (uv 1) (aA (uv 2) (aA (uv 3) (aA (uv 0) aB)))))) aB))))) ?_
 rintro us M Q ⟨r,d,x,mm,k,rfl,hM,hd,hx,hx2,hk,hmm10,q⟩
 refine ⟨rfl,?_⟩
 refine aI fun V hV=>?_
 dsimp! only [bC,hName]
 refine ⟨r,d,x,3,rfl,hM,hd,hx,hx2,by decide,by decide,fun n1 d1 x1 a1 b1 c1 c2 c3=>?_⟩
 dsimp! only [true_and]
 obtain ⟨m,hmm⟩:∃ m:Nat,1 + n1=(m:Int):=⟨(1 + n1).toNat,by omega⟩
 rw [hmm]
 refine ⟨r,d1,x1,m,rfl,aD,c1,c2,c3,by omega,fun names d2 x2 hl hnm f1 f2 f3=>?_⟩
 rw [aV]
 subst hV
 dsimp! only [bV]
 refine ⟨by omega,by omega,?_⟩
 rw [Int.toNat_natCast]
 refine ⟨by rw [gX];exact small (by omega),fun D hD=>⟨fun i ys M'=>∃ (ts:List Wt) (d' x':Int),ys=ts.map Wt.toU/\ts.length=i/\Mp ts k/\M'=mup (mup M r (.lst (bF d' x'))) D (.lst (ts.map Wt.toU))/\0<=d'/\0<=x'/\x'<=2147484647,⟨[],d2,x2,rfl,rfl,(fun i t h=>by simp at h),rfl,f1,f2,f3⟩,?_,?_,?_⟩⟩
 ·rintro i ys M' ⟨ts,d',x',rfl,hts,hok,rfl,_⟩
  exact ⟨(fun a e=>by cases e),aD,by rw [List.length_map];omega⟩
 ·rintro i y ys M' hy ⟨ts,d',x',rfl,hts,hok,rfl,g1,g2,g3⟩
  obtain ⟨rfl,hi⟩:=iY hy
  have hDr:r≠D:=fun z=>by subst z;rw [aD] at hD;cases hD
  have e0:(0:Int) + (i:Int)=((i:Nat):Int):=by omega
  dsimp! only [hName,e0]
  refine ⟨r,d',x',names,k,i,rfl,by rw [aG hDr,aD],g1,g2,g3,by omega,by omega,by omega,by omega,by omega,hnm,fun t d3 x3 ht hdp hsz l1 l2 l3=>?_⟩
  have e1:mup (mup (mup M r (.lst (bF d' x'))) D (.lst (ts.map Wt.toU))) r (.lst (bF d3 x3)) D=some (.lst (ts.map Wt.toU)):=by rw [aG (Ne.symm hDr),aD]
  refine ⟨e1,ts++[t],d3,x3,by rw [List.map_append];rfl,by rw [List.length_append,hts];rfl,MJ hok (by rw [hts];exact ⟨ht,hdp,hsz⟩),?_,l1,l2,l3⟩
  rw [List.map_append]
  funext z
  by_cases z1:z=D
  ·subst z1;rw [aD,aD];rfl
  ·rw [aG z1,aG z1]
   by_cases z2:z=r
   ·subst z2;rw [aD,aD]
   ·rw [aG z2,aG z1,aG z2,aG z2]
 ·rintro ys M' ⟨ts,d',x',rfl,hts,hok,rfl,g1,g2,g3⟩
  have hDr:r≠D:=fun z=>by subst z;rw [aD] at hD;cases hD
  have hMD:M D=none:=by rw [aG (Ne.symm hDr)] at hD;exact hD
  have hts2:ts.length=mm:=by rw [hts];exact gX 0 mm
  refine ⟨mup M r (.lst (bF d' x')),(Sub.refl _).mup (by rw [aG (Ne.symm hDr)];exact hMD),by rw [aG (Ne.symm hDr)];exact hMD,?_⟩
  dsimp! only [true_and]
  exact aW (q ts d' x' hts2 hok g1 g2 g3)
def Pt.hol:Pt->List Str
 | .hole c=>[c]
 | .turn a=>a.hol
 | .two _ a b=>a.hol++b.hol
 | _=>[]
def sF (cs:List Str) (p:Pt):Prop:=∀ s∈p.hol,s∈cs
theorem Bi {cs:List Str} {o:Op} {a b:Pt} (h1:sF cs a) (h2:sF cs b):sF cs (.two o a b):=fun s hs=>by
 rcases List.mem_append.mp hs with h | h
 ·exact h1 s h
 ·exact h2 s h
theorem KJ {n:Int} (h0:0<=n) (h1:n < 3):∃ o:Op,dP [U.str (Str.ofString "sum"),U.str (Str.ofString "less"),U.str (Str.ofString "by")] n=some (.str o.word):=by
 have e:n=0\/n=1\/n=2:=by omega
 rcases e with rfl | rfl | rfl
 ·exact ⟨.sum,rfl⟩
 ·exact ⟨.less,rfl⟩
 ·exact ⟨.by_,rfl⟩
theorem yA {cs:List Str} {n:Int} (h0:0<=n) (h1:n < cs.length):∃ s,s∈cs/\dP (cs.map U.str) n=some (.str s):=by
 have hlt:n.toNat < cs.length:=by omega
 refine ⟨cs[n.toNat],List.getElem_mem hlt,?_⟩
 have:=eL (xs:=cs.map U.str) (j:=n.toNat) (v:=.str cs[n.toNat]) (by rw [List.getElem?_map,List.getElem?_eq_getElem hlt];rfl)
 rw [Int.toNat_of_nonneg h0] at this
 exact this
def rK (n:Nat):bG:=fun us M Q=>∃ (f:Addr) (d x:Int) (cs:List Str) (k:Nat),us=[.ref f,aX cs,.int (k:Int)]/\M f=some (.lst (bF d x))/\0<=d/\0<=x/\x<=2147484647/\k < n/\k<=3/\fQ cs /\
 ∀ (p:Pt) (d' x':Int),p.ok->p.dep<=k + 1->sF cs p->0<=d'->0<=x'->x'<=2147484647->Q p.toU (mup M f (.lst (bF d' x')))
local macro_rules | `(tactic| simp! only [$xs,*] $[$l]?) => `(tactic| simp only [$xs,*, Bool.false_eq_true, Bool.not_false, Bool.not_true, List.append_nil, List.cons_append, List.getElem?_cons_succ, List.getElem?_cons_zero, List.length_cons, List.length_nil, List.map_cons, List.map_nil, List.nil_append, List.replicate, List.set_cons_succ, List.set_cons_zero, Nat.add_sub_cancel, Nat.reduceAdd, Nat.reduceLeDiff, Nat.reduceSub, Nat.sub_self, Option.getD_some, Option.some.injEq, and_true, Mh, LP, at2, Mt, Ff, FV, BY, sV, BZ, w6, sP, zQ, FC, pU, IG, Iq, Hi, L0, fG, decide_false, decide_true, u4, u9, exists_eq_left', if_false, if_true, Gn, iB, iF, iC, i4, h9, i8, gY, lI, lE, lY, kX, mK, kB, kT, lH, mN, lG, mL, kA, mU, mJ, nZ, mX, nT, kS, lD, kZ, m5, lF, mI, jZ, mW, m4, n0, mP, nR, lA, kF, kG, kY, kE, lJ, jQ, items, nA, zM, nQ, GY, yS, iH, aV, aD, reduceCtorEq, eS, Mj, true_and, DC, xB, sE, zY, vN, Bd, Fu, uC, CQ, qB, uQ, qX, n6, vA, rD, Fm, uI, tT, Es, xF, tF, Cn, Ax, zX, wQ, Gv, uZ, pI, Az, tD, BR, mG, EI, GV, vU, vY, BO, zO, sX, Ap, Ab, LK, oU, Ad, BP, xP, xR, yE, uF, yX, yO] $[$l]?)
theorem Kf {n:Nat} (F:cK K "_law_inner" "_law_inner" g0 f fd) (hm:mg "_law_inner"=some (.ref f)) (bB:mg "len"=none) (aO:Callee P w K mg base 1 "_law_take" jW []) (hU:Callee P w K mg base (n + 1) "_law_inner" (rK n) []):Callee P w K mg base (n + 2) "_law_inner" (rK (n + 1)) []:=by
 refine bP F hm mF (q9 fun _ _ _ _ _ _ _ _ _=>rfl) (aE (aS 3 mF.nd (aK aO (aA (uv 0) (aA aP aB))))
 (aE (cM (bW j9 (uv 3) aP)
 (aL (bD (bZ (aA fV aB))))
 bQ)
 (aE (cM (bW j9 (uv 3) aP)
 (aE (aS 4 mF.nd (aK aO (aA (uv 0) (aA aP aB))))
 (aL (bD (bZ (aA fV (aA (uv 4) (aA (cG (own:=false) (uv 4) (aK aO (aA (uv 0) (aA aP aB)))) aB)))))))
 bQ)
 (aE (cM (lW.pt (BL (bW j9 (uv 2) aP) (yK (bW pD (uv 3) aP))))
 (aL (bD (bZ (aA fV (aA (aQ (uv 1) (aK aO (aA (uv 0) (aA (dX dO bB (aA (uv 1) aB)) aB)))) aB)))))
 bQ)
 (aE (cM (bW j9 (uv 3) aP)
 (aL (bD (bZ (aA fV (aA (aK hU (aA (uv 0) (aA (uv 1) (aA (gG (uv 2) aP) aB)))) aB)))))
 bQ)
 (aE (aS 5 mF.nd (aQ (cF (own:=false) (aA fV (aA fV (aA fV aB)))) (aK aO (aA (uv 0) (aA aP aB)))))
 (aL (bD (bZ (aA (uv 5) (aA (aK hU (aA (uv 0) (aA (uv 1) (aA (gG (uv 2) aP) aB)))) (aA (aK hU (aA (uv 0) (aA (uv 1) (aA (gG (uv 2) aP) aB)))) aB)))))))))))) ?_
 rintro us M Q ⟨r,d,x,cs,k,rfl,hM,hd,hx0,hx,hk,hk3,hC,q⟩
 refine ⟨rfl,?_⟩
 have hc1:1<=cs.length:=by
  cases h:cs with
  | nil=>exact absurd h hC.ne
  | cons a b=>simp
 have hc6:=hC.len
 refine aI fun V hV=>?_
 simp! only [bC,hName,aX]
 refine ⟨r,d,x,10,rfl,hM,hd,hx0,hx,by omega,by omega,fun wy d1 x1 a1 b1 c1 c2 c3=>?_⟩
 subst hV
 refine aI fun V hV=>?_
 refine cB fun A B hA hB=>?_
 simp! only [true_and]
 refine iI (fun _=>?_) (fun h0=>?_)
 ·subst hA
  simp! only [bV]
  exact aW (q .any d1 x1 trivial (by simp [Pt.dep]) (fun s hs=>by cases hs) c1 c2 c3)
 subst hB
 simp only [cA]
 subst hV
 refine aI fun V hV=>?_
 refine cB fun A B hA hB=>?_
 simp! only [true_and]
 refine iI (fun _=>?_) (fun h1=>?_)
 ·subst hA
  refine aI fun V hV=>?_
  simp! only [bC,hName]
  refine ⟨r,d1,x1,4,rfl,aD,c1,c2,c3,by omega,by omega,fun lo d2 x2 a2 b2 f1 f2 f3=>?_⟩
  rw [aV]
  subst hV
  simp! only [bV]
  refine ⟨r,d2,x2,3,rfl,aD,f1,f2,f3,by omega,by omega,fun mo d3 x3 a3 b3 g1 g2 g3=>?_⟩
  rw [aV]
  exact aW (q (.fr lo (lo + mo)) d3 x3 ⟨a2,by omega⟩ (by simp [Pt.dep]) (fun s hs=>by cases hs) g1 g2 g3)
 subst hB
 simp only [cA]
 subst hV
 refine aI fun V hV=>?_
 refine cB fun A B hA hB=>?_
 have goA:A (mup M r (.lst (bF d1 x1))):=by
  subst hA
  simp! only [bV,List.length_map]
  refine ⟨r,d1,x1,cs.length,rfl,aD,c1,c2,c3,by omega,by omega,fun i d2 x2 a2 b2 f1 f2 f3=>?_⟩
  rw [aV]
  obtain ⟨s,hs,hat⟩:=yA (cs:=cs) (n:=i) a2 b2
  exact ⟨_,hat,aW (q (.hole s) d2 x2 (hC.ok s hs) (by simp [Pt.dep]) (fun z hz=>by cases List.mem_singleton.mp hz;exact hs) f1 f2 f3)⟩
 simp! only [true_and]
 refine iI (fun _=>goA) (fun h2=>?_)
 refine iI (fun _=>goA) (fun h3=>?_)
 have hk0:k≠0:=fun z=>h2 (by subst z;rfl)
 obtain ⟨k',rfl⟩:∃ k',k=k' + 1:=⟨k - 1,by omega⟩
 have ek:((k' + 1:Nat):Int) - 1=(k':Int):=by push_cast;omega
 subst hB
 simp only [cA]
 subst hV
 refine aI fun V hV=>?_
 refine cB fun A B hA hB=>?_
 simp! only [true_and]
 refine iI (fun _=>?_) (fun h7=>?_)
 ·subst hA
  simp! only [bV,ek,aX]
  refine ⟨r,d1,x1,cs,k',rfl,aD,c1,c2,c3,by omega,by omega,hC,fun p d2 x2 e1 e2 e3 f1 f2 f3=>?_⟩
  rw [aV]
  simp! only [true_and]
  exact aW (q (.turn p) d2 x2 e1 (by simp only [Pt.dep];omega) e3 f1 f2 f3)
 subst hB
 simp only [cA]
 subst hV
 refine aI fun V hV=>?_
 simp! only [bC,hName]
 refine ⟨r,d1,x1,3,rfl,aD,c1,c2,c3,by omega,by omega,fun i d2 x2 a2 b2 f1 f2 f3=>?_⟩
 rw [aV]
 obtain ⟨o,ho⟩:=KJ a2 b2
 refine ⟨_,ho,?_⟩
 subst hV
 simp! only [bV,ek,aX]
 refine ⟨r,d2,x2,cs,k',rfl,aD,f1,f2,f3,by omega,by omega,hC,fun p d3 x3 e1 e2 e3 g1 g2 g3=>?_⟩
 rw [aV]
 simp! only [ek,aX]
 refine ⟨r,d3,x3,cs,k',rfl,aD,g1,g2,g3,by omega,by omega,hC,fun p2 d4 x4 e4 e5 e6 k1 k2 k3=>?_⟩
 rw [aV]
 simp! only [true_and]
 exact aW (q (.two o p p2) d4 x4 ⟨e1,e4⟩ (by simp only [Pt.dep];omega) (Bi e3 e6) k1 k2 k3)
theorem Ba (F:cK K "_law_inner" "_law_inner" g0 f fd) (hm:mg "_law_inner"=some (.ref f)) (bB:mg "len"=none) (aO:Callee P w K mg base 1 "_law_take" jW []):∀ n,Callee P w K mg base (n + 1) "_law_inner" (rK n) []
 | 0=>by
  have no:∀ us M Q,¬ rK 0 us M Q:=fun us M Q h=>by
   obtain ⟨_,_,_,_,_,_,_,_,_,_,h,_⟩:=h
   omega
  refine ⟨f,fd,["feed","classes","deep"],[],[],⟨fun vs H Q E h=>?_,fun A outer s H args us vs Q E _ _ _ _ h=>?_⟩,hm,F.kp,F.binds (q9 fun _ _ _ _ _ _ _ _ _=>rfl),.nil,fun H M=>.nil⟩
  ·obtain ⟨us,M,Q',_,_,h,_⟩:=h;exact absurd h (no us M Q')
  ·obtain ⟨us,M,Q',_,_,h,_⟩:=h;exact absurd h (no us M Q')
 | n + 1=>Kf F hm bB aO (Ba F hm bB aO n)
theorem Kb {n:Int} (h0:0<=n) (h1:n < 5):∃ o:Op,dP [U.str (Str.ofString "sum"),U.str (Str.ofString "less"),U.str (Str.ofString "by"),U.str (Str.ofString "sum"),U.str (Str.ofString "by")] n=some (.str o.word):=by
 have e:n=0\/n=1\/n=2\/n=3\/n=4:=by omega
 rcases e with rfl | rfl | rfl | rfl | rfl
 ·exact ⟨.sum,rfl⟩
 ·exact ⟨.less,rfl⟩
 ·exact ⟨.by_,rfl⟩
 ·exact ⟨.sum,rfl⟩
 ·exact ⟨.by_,rfl⟩
def IC:bG:=fun us M Q=>∃ (f:Addr) (d x:Int) (cs:List Str) (c:Str),us=[.ref f,aX cs,.str c]/\M f=some (.lst (bF d x))/\0<=d/\0<=x/\x<=2147484647/\fQ cs /\
 ∀ (p:Pt) (d' x':Int),p.ok->p.dep<=3->sF cs p->0<=d'->0<=x'->x'<=2147484647->Q p.toU (mup M f (.lst (bF d' x')))
def rH (c:Str):U->Option U
 | .str z=>if z=c then none else some (.str z)
 | _=>none
theorem AQ (c:Str):∀ cs:List Str,(cs.map U.str).filterMap (rH c)=(cs.filter fun z=>!decide (z=c)).map U.str
 | []=>rfl
 | z :: cs=>by
  have ih:=AQ c cs
  by_cases h:z=c
  ·simp only [List.map_cons,List.filterMap_cons,rH,if_pos h,List.filter_cons,h,decide_true,Bool.not_true,Bool.false_eq_true,if_false];exact ih
  ·simp only [List.map_cons,List.filterMap_cons,rH,if_neg h,List.filter_cons,decide_eq_false h,Bool.not_false,if_true];rw [ih]
theorem Nd (F:cK K "_law_pattern" "_law_pattern" gK f fd) (hm:mg "_law_pattern"=some (.ref f)) (bB:mg "len"=none) (aO:Callee P w K mg base 1 "_law_take" jW []) (hU:Callee P w K mg base 5 "_law_inner" (rK 4) []):Callee P w K mg base 6 "_law_pattern" IC []:=by
 refine bP F hm kD (q9 fun _ _ _ _ _ _ _ _ _=>rfl) (aE (aS 3 kD.nd (aK aO (aA (uv 0) (aA aP aB))))
 (aE (nB 4 kD.nd false ["one","cls"] 1 [2] (dS (uv 1)) (aU (k:=1) 0 (by dsimp only [bR];decide +kernel)) (vX (bW u6 (uv 0) (uv 1))) (uv 0))
 (aE (cM (lW.pt (mZ (bW j9 (uv 3) aP) (lV (bW Lh (dX dO bB (aA (uv 4) aB)) aP))))
 (aL (bD (bZ (aA fV (aA (aQ (uv 4) (aK aO (aA (uv 0) (aA (dX dO bB (aA (uv 4) aB)) aB)))) aB)))))
 bQ)
 (aE (cM (bW pD (uv 3) aP)
 (aL (bD (bZ (aA fV (aA (aK hU (aA (uv 0) (aA (uv 1) (aA aP aB)))) aB)))))
 bQ)
 (aE (aS 5 kD.nd (aQ (cF (own:=false) (aA fV (aA fV (aA fV (aA fV (aA fV aB)))))) (gG (uv 3) aP)))
 (aL (bD (bZ (aA (uv 5) (aA (aK hU (aA (uv 0) (aA (uv 1) (aA aP aB)))) (aA (aK hU (aA (uv 0) (aA (uv 1) (aA aP aB)))) aB))))))))))) ?_
 rintro us M Q ⟨r,d,x,cs,c,rfl,hM,hd,hx0,hx,hC,q⟩
 refine ⟨rfl,?_⟩
 have hc6:=hC.len
 refine aI fun V hV=>?_
 simp! only [bC,hName,aX]
 refine ⟨r,d,x,7,rfl,hM,hd,hx0,hx,by omega,by omega,fun wy d1 x1 a1 b1 c1 c2 c3=>?_⟩
 subst hV
 refine aI fun V hV=>?_
 simp only [bC,hName]
 refine Fg (S:=⟨none,cs.map U.str⟩) (M1:=mup M r (.lst (bF d1 x1))) (rH c) (fun R r=>by simp! only [true_and];exact r) (by simp only [List.length_map];exact small (by omega)) (by intro a e;cases e) (fun z hz M' _ R r=>?_) ?_
 ·obtain ⟨s,hs,rfl⟩:=List.mem_map.mp hz
  simp! only [true_and]
  by_cases h:s=c
  ·simp only [rH,if_pos h] at r
   simp! only [hName,h]
   exact r
  ·simp only [rH,if_neg h] at r
   simp! only [hName,decide_eq_false h]
   exact r
 rw [AQ]
 generalize ho:(cs.filter fun z=>!decide (z=c))=os
 have hos:∀ s∈os,s∈cs:=fun s hs=>by subst ho;exact (List.mem_filter.mp hs).1
 have hol:os.length<=cs.length:=by subst ho;exact List.length_filter_le _ _
 simp only [iH]
 subst hV
 refine aI fun V hV=>?_
 refine cB fun A B hA hB=>?_
 have goB:B (mup M r (.lst (bF d1 x1))):=by
  subst hB
  simp only [cA]
  subst hV
  refine aI fun V hV=>?_
  refine cB fun A B hA hB=>?_
  simp! only [true_and]
  refine iI (fun _=>?_) (fun h2=>?_)
  ·subst hA
   simp! only [bV,aX]
   refine ⟨r,d1,x1,cs,1,rfl,aD,c1,c2,c3,by omega,by omega,hC,fun p d2 x2 e1 e2 e3 f1 f2 f3=>?_⟩
   rw [aV]
   simp! only [true_and]
   exact aW (q (.turn p) d2 x2 e1 (by simp only [Pt.dep];omega) e3 f1 f2 f3)
  subst hB
  simp only [cA]
  subst hV
  refine aI fun V hV=>?_
  have hw2:2<=wy:=by
   have:¬ wy < 2:=fun z=>h2 (by simpa using z)
   omega
  obtain ⟨o,ho⟩:=Kb (n:=wy - 2) (by omega) (by omega)
  simp! only [bC,hName,ho]
  subst hV
  simp! only [bV,aX]
  refine ⟨r,d1,x1,cs,1,rfl,aD,c1,c2,c3,by omega,by omega,hC,fun p d3 x3 e1 e2 e3 g1 g2 g3=>?_⟩
  rw [aV]
  simp! only [aX]
  refine ⟨r,d3,x3,cs,1,rfl,aD,g1,g2,g3,by omega,by omega,hC,fun p2 d4 x4 e4 e5 e6 k1 k2 k3=>?_⟩
  rw [aV]
  simp! only [true_and]
  exact aW (q (.two o p p2) d4 x4 ⟨e1,e4⟩ (by simp only [Pt.dep];omega) (Bi e3 e6) k1 k2 k3)
 simp! only [List.length_map]
 refine iI (fun _=>?_) (fun _=>goB)
 refine iI (fun hp=>?_) (fun _=>goB)
 have hp1:0 < os.length:=by have:=of_decide_eq_true hp;omega
 subst hA
 simp! only [bV,List.length_map]
 refine ⟨r,d1,x1,os.length,rfl,aD,c1,c2,c3,by omega,by omega,fun i d2 x2 a2 b2 f1 f2 f3=>?_⟩
 rw [aV]
 obtain ⟨s,hs,hat⟩:=yA (cs:=os) (n:=i) a2 b2
 exact ⟨_,hat,aW (q (.hole s) d2 x2 (hC.ok s (hos s hs)) (by simp [Pt.dep]) (fun z hz=>by cases List.mem_singleton.mp hz;exact hos s hs) f1 f2 f3)⟩
structure RI (cs:List Str) (t:Tl):Prop where
 good:t.k.pt.ok/\t.k.pt.dep<=3
 cls:t.k.cls∈cs
 cost:0<=t.k.cost/\t.k.cost<=1000
 hol:sF cs t.k.pt
structure mM (cs:List Str) (tls:List Tl):Prop where
 cls:fQ cs
 all:∀ t∈tls,RI cs t
 len:tls.length<=10
theorem mM.tab {cs:List Str} {tls:List Tl} (h:mM cs tls):Tab cs tls:=⟨h.cls,fun t ht=>⟨(h.all t ht).good.1,by have:=(h.all t ht).good.2;omega⟩,by have:=h.len;omega⟩
theorem OI {a b c n:Int} (ha:0<=a/\a < 3) (hb:0<=b/\b < 12) (hc:0<=c/\c < 1001) (h0:0<=n) (h1:n < 3):∃ e,dP [U.int a,U.int b,U.int c] n=some (.int e)/\0<=e/\e<=1000:=by
 have e:n=0\/n=1\/n=2:=by omega
 rcases e with rfl | rfl | rfl <;> exact ⟨_,rfl,by omega,by omega⟩
theorem MR {n:Int} (h0:0<=n) (h1:n < 2):∃ p:Pt,dP [Pt.any.toU,(Pt.fr 0 (10 ^ Int.toNat 18)).toU] n=some p.toU/\p.ok/\p.dep<=3/\p.hol=[]:=by
 have e:n=0\/n=1:=by omega
 rcases e with rfl | rfl
 ·exact ⟨.any,rfl,trivial,by simp [Pt.dep],rfl⟩
 ·exact ⟨.fr 0 _,rfl,⟨by omega,by decide⟩,by simp [Pt.dep],rfl⟩
def IE:bG:=fun us M Q=>∃ (f:Addr) (d x:Int) (m:Nat),us=[.ref f,.int (m:Int)]/\M f=some (.lst (bF d x))/\0<=d/\0<=x/\x<=2147484647/\1<=m/\m<=3 /\
 ∀ (cs:List Str) (tls:List Tl) (d' x':Int),mM cs tls->0<=d'->0<=x'->x'<=2147484647->Q (fE cs tls) (mup M f (.lst (bF d' x')))
theorem Na (F:cK K "_law_table" "_law_table" jH f fd) (hm:mg "_law_table"=some (.ref f)) (bB:mg "len"=none) (cQ:mg "range"=none) (eK:mg "tuple"=none) (aO:Callee P w K mg base 1 "_law_take" jW []) (m7:Callee P w K mg base 2 "_law_unlike" xC []) (BJ:Callee P w K mg base 6 "_law_pattern" IC []):Callee P w K mg base 7 "_law_table" IE []:=by
 refine bP F hm cT (t8 fun _ _ _ _ _ _ _ _=>rfl) (aE (aS 2 cT.nd (sG pJ eK (aA (aK m7 (aA (uv 0) (aA (cG (own:=false) aP (aK aO (aA (uv 0) (aA (uv 1) aB)))) aB))) aB)))
 (aE (aS 3 cT.nd (cG (own:=false) aP (aK aO (aA (uv 0) (aA aP aB)))))
 (aE (aS 4 cT.nd (aK m7 (aA (uv 0) (aA (cG (own:=false) (uv 3) aP) aB))))
 (aE (aS 5 cT.nd (aK aO (aA (uv 0) (aA aP aB))))
 (aE (aS 6 cT.nd (cF (own:=true) aB))
 (aE (dW (nO cQ (aA (cG (own:=false) (uv 3) aP) aB)) (aU (k:=1000) 7 cT.nd)
 (aE (aS 8 cT.nd (aQ (uv 2) (aK aO (aA (uv 0) (aA (dX dO bB (aA (uv 2) aB)) aB)))))
 (aE (aS 9 cT.nd (aQ (cF (own:=false) (aA (aK aO (aA (uv 0) (aA aP aB))) (aA (aK aO (aA (uv 0) (aA aP aB))) (aA (aK aO (aA (uv 0) (aA aP aB))) aB)))) (aK aO (aA (uv 0) (aA aP aB)))))
 (aE (aS 10 cT.nd (aK BJ (aA (uv 0) (aA (uv 2) (aA (uv 8) aB)))))
 (aE (cM (bW pD (uv 7) aP)
 (aL (aS 10 cT.nd (aQ (cF (own:=false) (aA (bZ (aA fV aB)) (aA (bZ (aA fV (aA aP (aA (xQ aP aP) aB)))) aB))) (uv 7))))
 bQ)
 (aL (cM (bW u6 (uv 7) (uv 5))
 (aL (fA (jT (uv 6) (aA (bZ (aA (aQ (uv 4) (uv 7)) (aA (uv 8) (aA (uv 10) (aA (uv 9) aB))))) aB))))
 bQ)))))))
 (aL (bD (bZ (aA (uv 2) (aA (sG pJ eK (aA (uv 6) aB)) aB))))))))))) ?_
 rintro us M Q ⟨r,d,x,m,rfl,hM,hd,hx0,hx,hm1,hm3,q⟩
 refine ⟨rfl,?_⟩
 refine aI fun V hV=>?_
 simp! only [bC,hName]
 refine ⟨r,d,x,m,rfl,hM,hd,hx0,hx,by omega,by omega,fun n1 d1 x1 a1 b1 c1 c2 c3=>?_⟩
 simp! only [true_and]
 obtain ⟨k1,hk1⟩:∃ k1:Nat,1 + n1=(k1:Int):=⟨(1 + n1).toNat,by omega⟩
 rw [hk1]
 refine ⟨r,d1,x1,k1,rfl,aD,c1,c2,c3,by omega,fun cs d2 x2 hcl hcn e1 e2 e3=>?_⟩
 rw [aV]
 simp! only [true_and]
 have hC:fQ cs:=⟨fun z=>by subst z;simp at hcl;omega,by omega,fun s hs=>N8 (hcn s hs)⟩
 subst hV
 refine aI fun V hV=>?_
 simp! only [bC,hName]
 refine ⟨r,d2,x2,7,rfl,aD,e1,e2,e3,by omega,by omega,fun n2 d3 x3 a3 b3 f1 f2 f3=>?_⟩
 rw [aV]
 simp! only [true_and]
 subst hV
 refine aI fun V hV=>?_
 simp! only [bC,hName]
 obtain ⟨k2,hk2⟩:∃ k2:Nat,2 + n2 + 2=(k2:Int):=⟨(2 + n2 + 2).toNat,by omega⟩
 rw [hk2]
 refine ⟨r,d3,x3,k2,rfl,aD,f1,f2,f3,by omega,fun ns d4 x4 hnl hnn g1 g2 g3=>?_⟩
 rw [aV]
 subst hV
 refine aI fun V hV=>?_
 simp! only [bC,hName]
 refine ⟨r,d4,x4,8,rfl,aD,g1,g2,g3,by omega,by omega,fun sk d5 x5 a5 b5 i1 i2 i3=>?_⟩
 rw [aV]
 subst hV
 refine aI fun V hV=>?_
 simp! only [bC,hName]
 refine fun t ht=>?_
 have hrt:r≠t:=fun z=>by rw [<- z,aD] at ht;cases ht
 have hMt:M t=none:=by rw [aG hrt.symm] at ht;exact ht
 have est:mup (mup M r (.lst (bF d5 x5))) t (.lst [])=cJ M r t (bF d5 x5) (([]:List Tl).map Tl.toU):=rfl
 rw [est]
 subst hV
 refine aI fun V hV=>?_
 refine eA (S:=⟨none,eF 0 k2⟩) (M1:=cJ M r t (bF d5 x5) (([]:List Tl).map Tl.toU)) (fun R r=>by
   simp! only [true_and]
   rw [hk2]
   refine ⟨by omega,by omega,?_⟩
   rw [Int.toNat_natCast];exact r)
  (fun i τ' M'=>∃ (e7 e8 e9 e10:Option U) (tls:List Tl) (d6 x6:Int),τ'=[some (.ref r),some (.int m),some (aX cs),some (.int (2 + n2)),some (.lst (ns.map U.str)),some (.int sk),some (.ref t),e7,e8,e9,e10]/\M'=cJ M r t (bF d6 x6) (tls.map Tl.toU)/\(∀ z∈tls,RI cs z)/\tls.length<=i/\0<=d6/\0<=x6/\x6<=2147484647)
  ⟨none,none,none,none,[],d5,x5,rfl,rfl,(fun z hz=>by cases hz),by simp,i1,i2,i3⟩ (fun i τ' M' _=>fun a e=>by cases e) ?_ ?_
 ·rintro i v τ' M' hi ⟨e7,e8,e9,e10,tls,d6,x6,rfl,rfl,htl,hlen,j1,j2,j3⟩
  obtain ⟨rfl,hik⟩:=iY hi
  simp! only [hName]
  refine aI fun V2 hV2=>?_
  simp! only [bC,hName,aX,List.length_map]
  refine ⟨r,d6,x6,cs.length,rfl,nY hrt,j1,j2,j3,by omega,by omega,fun n7 d7 x7 a7 b7 l1 l2 l3=>?_⟩
  rw [gZ hrt]
  obtain ⟨cl,hcl2,hat⟩:=yA (cs:=cs) (n:=n7) a7 b7
  refine ⟨_,hat,?_⟩
  subst hV2
  refine aI fun V2 hV2=>?_
  simp! only [bC,hName]
  refine ⟨r,d7,x7,3,rfl,nY hrt,l1,l2,l3,by omega,by omega,fun na d8 x8 a8 b8 o1 o2 o3=>?_⟩
  rw [gZ hrt]
  simp! only [true_and]
  refine ⟨r,d8,x8,12,rfl,nY hrt,o1,o2,o3,by omega,by omega,fun nb d9 x9 a9 b9 p1 p2 p3=>?_⟩
  rw [gZ hrt]
  simp! only [true_and]
  refine ⟨r,d9,x9,1001,rfl,nY hrt,p1,p2,p3,by omega,by omega,fun nc da xa aa ba q1 q2 q3=>?_⟩
  rw [gZ hrt]
  simp! only [true_and]
  refine ⟨r,da,xa,3,rfl,nY hrt,q1,q2,q3,by omega,by omega,fun nd db xb ab bb r1 r2 r3=>?_⟩
  rw [gZ hrt]
  obtain ⟨fee,hfee,hf0,hf1⟩:=OI ⟨a8,b8⟩ ⟨a9,b9⟩ ⟨aa,ba⟩ ab bb
  refine ⟨_,hfee,?_⟩
  subst hV2
  refine aI fun V2 hV2=>?_
  simp! only [bC,hName]
  refine ⟨r,db,xb,cs,cl,rfl,nY hrt,r1,r2,r3,hC,fun pt dc xc h1 h2 h3 s1 s2 s3=>?_⟩
  rw [gZ hrt]
  subst hV2
  refine aI fun V2 hV2=>?_
  have tail:∀ (p:Pt),p.ok->p.dep<=3->sF cs p->V2 (List.set [some (U.ref r),some (U.int m),some (aX cs),some (U.int (2 + n2)),some (U.lst (ns.map U.str)),some (U.int sk),some (U.ref t),some (U.int (0 + i)),some (U.str cl),some (U.int fee),some pt.toU] 10 (some p.toU)) (cJ M r t (bF dc xc) (tls.map Tl.toU)):=by
   intro p w1 w2 w3
   subst hV2
   refine cB fun A B hA hB=>?_
   simp! only [true_and]
   refine iI (fun _=>?_) (fun _=>?_)
   ·subst hA
    obtain ⟨nm,hnm⟩:∃ nm,ns[i]?=some nm:=⟨ns[i]'(by omega),List.getElem?_eq_getElem (by omega)⟩
    have hat2:dP (ns.map U.str) (0 + (i:Int))=some (.str nm):=by
     have:=eL (xs:=ns.map U.str) (j:=i) (v:=.str nm) (by rw [List.getElem?_map,hnm];rfl)
     rw [Int.zero_add];exact this
    simp! only [fM,hat2,sA]
    refine ⟨⟨_,bT sA⟩,by rw [List.length_map];exact big (by omega),?_⟩
    rw [Dy]
    refine ⟨_,_,_,_,tls++[⟨nm,⟨cl,p,fee⟩⟩],dc,xc,rfl,by rw [List.map_append];rfl,fun z hz=>?_,by rw [List.length_append];simp;omega,s1,s2,s3⟩
    rcases List.mem_append.mp hz with hz | hz
    ·exact htl z hz
    ·cases List.mem_singleton.mp hz;exact ⟨⟨w1,w2⟩,hcl2,⟨hf0,hf1⟩,w3⟩
   ·subst hB
    simp only [cA]
    exact ⟨_,_,_,_,tls,dc,xc,rfl,rfl,htl,by omega,s1,s2,s3⟩
  refine cB fun A B hA hB=>?_
  simp! only [true_and]
  refine iI (fun hi2=>?_) (fun _=>?_)
  ·subst hA
   have hi2':(0:Int) + i < 2:=of_decide_eq_true hi2
   obtain ⟨p,hp,w1,w2,w3⟩:=MR (n:=0 + (i:Int)) (by omega) hi2'
   have hp':dP [U.tup [U.str (Str.ofString "any")],U.tup [U.str (Str.ofString "from"),U.int 0,U.int (10 ^ Int.toNat 18)]] (0 + (i:Int))=some p.toU:=hp
   simp! only [bC,hName,hp']
   refine ⟨⟨by decide,by decide,by decide⟩,?_⟩
   exact tail p w1 w2 (fun s hs=>by rw [w3] at hs;cases hs)
  ·subst hB
   simp only [cA]
   exact tail pt h1 h2 h3
 ·rintro τ' M' ⟨e7,e8,e9,e10,tls,d6,x6,rfl,rfl,htl,hlen,j1,j2,j3⟩
  rw [gX] at hlen
  subst hV
  simp! only [bV,sA]
  have hvw:view (cJ M r t (bF d6 x6) (tls.map Tl.toU)) (.ref t)=.lst (tls.map Tl.toU):=by simp only [view,sA]
  simp only [hvw]
  refine ⟨_,mup M r (.lst (bF d6 x6)),fun b mo e=>?_,.inl rfl,q cs tls d6 x6 ⟨hC,htl,by omega⟩ j1 j2 j3⟩
  by_cases hb:b=t
  ·subst hb;rw [aG hrt.symm,hMt] at e;cases e
  ·unfold cJ;rw [aG hb];exact e
def oN:Option Nat->U
 | none=>.non
 | some n=>.int (n:Int)
def bH (l:List (Option Nat)):List U:=l.map oN
theorem jD (l:List (Option Nat)):(bH l).length=l.length:=List.length_map _
theorem Dl (l:List (Option Nat)) (i:Nat) (n:Nat):(bH l).set i (.int (n:Int))=bH (l.set i (some n)):=by
 rw [bH,bH,List.map_set];rfl
theorem rW {l:List (Option Nat)} {i:Nat} {v:Option Nat} (h:l[i]?=some v):dP (bH l) (i:Int)=some (oN v):=eL (by rw [bH,List.getElem?_map,h];rfl)
theorem u0 (n:Nat):(List.replicate n [U.non]).flatten=bH (List.replicate n none):=by
 induction n with
 | zero=>rfl
 | succ k ih=>rw [List.replicate_succ,List.flatten_cons,ih,List.replicate_succ];rfl
theorem Am {n i:Nat} (h:i < n):uK n (i:Int)=some i:=by
 unfold uK
 rw [if_pos (by omega),if_pos (by omega)];simp
def lO (l:List (Option Nat)) (i n:Nat):List (Option Nat):=match l[i]? with
 | some none=>l.set i (some n)
 | some (some m)=>if n < m then l.set i (some n) else l
 | none=>l
theorem vV (l:List (Option Nat)) (i n:Nat):(lO l i n).length=l.length:=by
 unfold lO
 split
 ·simp
 ·split <;> simp
 ·rfl
def pM:bG:=fun us M Q=>∃ (p:Addr) (l:List (Option Nat)) (i n:Nat),us=[.ref p,.int (i:Int),.int (n:Int)]/\M p=some (.lst (bH l))/\i < l.length/\Q .non (mup M p (.lst (bH (lO l i n))))
theorem Li (F:cK K "lower" "lower" pF f fd) (hm:mg "lower"=some (.ref f)):Callee P w K mg base 1 "lower" pM []:=by
 refine bP F hm Lr (q9 fun _ _ _ _ _ _ _ _ _=>rfl) (aL (cM (lW.pt (BL (bW GW (aQ (uv 0) (uv 1)) jO) (yK (bW pD (uv 2) (aQ (uv 0) (uv 1))))))
 (aL (rF (uv 2) (uv 0) (uv 1)))
 bQ)) ?_
 rintro us M Q ⟨p,l,i,n,rfl,hM,hi,q⟩
 refine ⟨rfl,?_⟩
 obtain ⟨v,hv⟩:∃ v,l[i]?=some v:=⟨_,List.getElem?_eq_getElem hi⟩
 have hat:=rW hv
 have hvw:view M (.ref p)=.lst (bH l):=bT hM
 refine cB fun A B hA hB=>?_
 have goA:lO l i n=l.set i (some n)->A M:=fun e=>by
  subst hA
  rw [e] at q
  simp! only [nS,hM,jD]
  exact ⟨i,Am hi,by rw [Dl];exact aW q⟩
 have goB:lO l i n=l->B M:=fun e=>by
  subst hB
  rw [e] at q
  have e2:mup M p (.lst (bH l))=M:=Cm hM
  rw [e2] at q
  simp only [cA]
  exact aW q
 cases v with
 | none =>
  simp! only [hvw,hat,oN]
  exact goA (by unfold lO;rw [hv])
 | some m =>
  simp! only [hvw,hat,oN]
  refine iI (fun h=>goA ?_) (fun h=>goB ?_)
  ·have:=of_decide_eq_true h
   unfold lO;rw [hv];simp only;rw [if_pos (by omega)]
  ·have:¬ (n:Int) < m:=fun z=>h (decide_eq_true z)
   unfold lO;rw [hv];simp only;rw [if_neg (by omega)]
def Dz:bG:=fun us M Q=>∃ t:Tl,us=[t.toU]/\Q (.bl t.k.pt.isHole) M
theorem E1 (F:cK K "is_pass" "is_pass" lS f fd) (hm:mg "is_pass"=some (.ref f)):Callee P w K mg base 1 "is_pass" Dz []:=by
 refine bP F hm Fv (CO fun _ _ _ _ _ _ _=>rfl) (aL (bD (KD j9 (aQ (aQ (uv 0) aP) aP) fV))) ?_
 rintro us M Q ⟨t,rfl,q⟩
 refine ⟨rfl,?_⟩
 obtain ⟨z,rr,ez,hz⟩:=qI t.k.pt
 simp! only [Tl.toU,ez,hz,bV]
 exact aW q
def hZ (cs:List Str) (s:Str):Nat:=cs.findIdx fun z=>decide (z=s)
theorem pV {cs:List Str} {s:Str} (h:s∈cs):hZ cs s < cs.length/\cs[hZ cs s]?=some s/\∀ m z,m < hZ cs s->cs[m]?=some z->z≠s:=by
 have hl:hZ cs s < cs.length:=List.findIdx_lt_length_of_exists ⟨s,h,by simp⟩
 have e:decide (cs[hZ cs s]=s)=true:=List.findIdx_getElem (w:=hl) (p:=fun z=>decide (z=s))
 refine ⟨hl,?_,fun m z hm hz=>?_⟩
 ·rw [List.getElem?_eq_getElem hl,of_decide_eq_true e]
 ·have hml:m < cs.length:=by omega
  rw [List.getElem?_eq_getElem hml] at hz
  have:=List.not_of_lt_findIdx (p:=fun z=>decide (z=s)) hm
  simp only [Bool.not_eq_true,decide_eq_false_iff_not] at this
  rw [<- Option.some.inj hz];exact this
theorem Hr (cs:List Str):tJ (cs.map U.str)=some cs:=by
 induction cs with
 | nil=>rfl
 | cons a l ih=>simp only [List.map_cons,tJ,ih,Option.map_some]
theorem rC {cs:List Str} {s:Str} {M:aF} {Q:UK} (h:s∈cs) (q:Q (.int (hZ cs s:Nat)) M):vF (.tup (cs.map U.str)) [.str s] M Q:=by
 obtain ⟨_,h2,h3⟩:=pV h
 exact ⟨cs,hZ cs s,Hr cs,h2,h3,q⟩
abbrev T3:=Nat × Nat × Nat
def gF (x:T3):U:=.tup [.int (x.1:Int),.int (x.2.1:Int),.int (x.2.2:Int)]
def iE (cs:List Str) (t:Tl):Option T3:=match t.k.pt with
 | .hole c=>some (hZ cs c,hZ cs t.k.cls,t.k.cost.toNat)
 | _=>none
def oK (cs:List Str) (tls:List Tl):List T3:=tls.filterMap (iE cs)
def iV (l:List (Option Nat)) (x:T3):List (Option Nat):=match l[x.1]? with
 | some (some n)=>lO l x.2.1 (n + x.2.2)
 | _=>l
def wC (st:List T3):Nat->List (Option Nat)->List (Option Nat)
 | 0,l=>l
 | k + 1,l=>st.foldl iV (wC st k l)
theorem Jc (l:List (Option Nat)) (x:T3):(iV l x).length=l.length:=by
 unfold iV
 split
 ·exact vV _ _ _
 ·rfl
theorem nN:∀ (st:List T3) (l:List (Option Nat)),(st.foldl iV l).length=l.length
 | [],_=>rfl
 | x :: st,l=>by rw [List.foldl_cons,nN st,Jc]
theorem rP (st:List T3):∀ (k:Nat) (l:List (Option Nat)),(wC st k l).length=l.length
 | 0,_=>rfl
 | k + 1,l=>by rw [wC,nN,rP st k]
def iN (n s:Nat):List (Option Nat):=(List.replicate n none).set s (some 0)
def vB (s:Nat) (p:Option Nat × Nat):Option T3:=match p.1 with
 | some n=>if p.2=s then none else some (s,p.2,n)
 | none=>none
def jX (s:Nat) (l:List (Option Nat)):List T3:=l.zipIdx.filterMap (vB s)
def bO (cs:List Str) (tls:List Tl):List T3:=(List.range cs.length).flatMap fun s=>jX s (wC (oK cs tls) (cs.length - 1) (iN cs.length s))
theorem Jm {s n:Nat} {l:List (Option Nat)} (hl:l.length<=n) (hs:s < n):∀ x∈jX s l,x.1 < n/\x.2.1 < n:=fun x hx=>by
 obtain ⟨p,hp,e⟩:=List.mem_filterMap.mp hx
 obtain ⟨h1,h2⟩:=List.mem_zipIdx' hp
 unfold vB at e
 split at e
 ·split at e
  ·cases e
  ·cases e;exact ⟨hs,by simp only;omega⟩
 ·cases e
theorem J4 {cs:List Str} {tls:List Tl}:∀ x∈bO cs tls,x.1 < cs.length/\x.2.1 < cs.length:=fun x hx=>by
 obtain ⟨s,hs,h⟩:=List.mem_flatMap.mp hx
 exact Jm (n:=cs.length) (by rw [rP,iN,List.length_set,List.length_replicate];exact Nat.le_refl _) (List.mem_range.mp hs) x h
theorem Di {s:Nat} {l:List (Option Nat)}:(jX s l).length<=l.length:=by
 unfold jX
 refine Nat.le_trans (List.length_filterMap_le _ _) ?_
 rw [List.length_zipIdx];exact Nat.le_refl _
theorem A0 (cs:List Str) (tls:List Tl) (k:Nat):((List.range k).flatMap fun s=>jX s (wC (oK cs tls) (cs.length - 1) (iN cs.length s))).length<=k * cs.length:=by
 induction k with
 | zero=>simp
 | succ k ih =>
  rw [List.range_succ,List.flatMap_append,List.length_append]
  have h:(([k]:List Nat).flatMap fun s=>jX s (wC (oK cs tls) (cs.length - 1) (iN cs.length s))).length<=cs.length:=by
   rw [List.flatMap_cons,List.flatMap_nil,List.append_nil]
   refine Nat.le_trans Di ?_
   rw [rP,iN,List.length_set,List.length_replicate];exact Nat.le_refl _
  rw [Nat.succ_mul];omega
theorem JJ {cs:List Str} {tls:List Tl} (hT:mM cs tls):∀ x∈oK cs tls,x.1 < cs.length/\x.2.1 < cs.length:=fun x hx=>by
 obtain ⟨t,ht,e⟩:=List.mem_filterMap.mp hx
 have h:=hT.all t ht
 unfold iE at e
 split at e
 ·rename_i c hc
  cases e
  exact ⟨(pV (h.hol c (by rw [hc];exact List.mem_singleton.mpr rfl))).1,(pV h.cls).1⟩
 ·cases e
theorem JT {l:List (Option Nat)} {x:T3} {n:Nat} (h:l[x.1]?=some (some n)):iV l x=lO l x.2.1 (n + x.2.2):=by unfold iV;rw [h]
theorem Ju {l:List (Option Nat)} {x:T3} (h:l[x.1]?=some none):iV l x=l:=by unfold iV;rw [h]
def C6 (s:Nat) (v:Option Nat) (i:Nat):Option U:=(vB s (v,i)).map gF
theorem Ke (s:Nat) (l:List (Option Nat)):((l.zipIdx).map fun p=>C6 s p.1 p.2).filterMap id=(jX s l).map gF:=by
 unfold jX
 induction l.zipIdx with
 | nil=>rfl
 | cons p r ih =>
  rw [List.map_cons,List.filterMap_cons,List.filterMap_cons]
  simp only [id,C6]
  cases h:vB s (p.1,p.2) with
  | none=>simp only [Option.map_none];exact ih
  | some y=>simp only [Option.map_some,List.map_cons];exact congrArg _ ih
def Ep:bG:=fun us M Q=>∃ (cs:List Str) (tls:List Tl),us=[fE cs tls]/\mM cs tls/\Q (.lst ((bO cs tls).map gF)) M
theorem BG (F:cK K "pass_leads" "pass_leads" iL f fd) (hm:mg "pass_leads"=some (.ref f)) (bB:mg "len"=none) (cQ:mg "range"=none) (fC:mg "enumerate"=none) (uU:Callee P w K mg base 1 "is_pass" Dz []) (nM:Callee P w K mg base 1 "lower" pM []):Callee P w K mg base 2 "pass_leads" Ep []:=by
  refine bP F hm cZ (CO fun _ _ _ _ _ _ _=>rfl) (aE (aS 1 cZ.nd (aQ (uv 0) aP))
  (aE (nB 2 cZ.nd false ["tile","classes"] 1 [1] (dS (aQ (uv 0) aP)) (aU (k:=1) 0 (by dsimp only [bR];decide +kernel)) (vX (CK (aK uU (aA (uv 0) aB)))) (bZ (aA (lX (uv 1) (aA (aQ (aQ (uv 0) aP) aP) aB)) (aA (lX (uv 1) (aA (aQ (uv 0) aP) aB)) (aA (aQ (uv 0) aP) aB)))))
  (aE (aS 3 cZ.nd (cF (own:=true) aB))
  (aE (dW (nO cQ (aA (dX dO bB (aA (uv 1) aB)) aB)) (aU (k:=1000) 4 cZ.nd)
  (aE (aS 5 cZ.nd (iS (own:=true) (cF (own:=true) (aA jO aB)) (dX dO bB (aA (uv 1) aB))))
  (aE (rF aP (uv 5) (uv 4))
  (aE (Fi (dW (nO cQ (aA (gG (dX dO bB (aA (uv 1) aB)) aP) aB)) (aU (k:=1000) 6 cZ.nd)
  (aL (dW (dS (uv 2)) (jV (n:=3) (bN (aU (k:=1000) 7 cZ.nd) (bN (aU (k:=1000) 8 cZ.nd) (bN (aU (k:=1000) 9 cZ.nd) iQ))))
  (aL (cM (bW oG (aQ (uv 5) (uv 7)) jO)
  (aL (fA (aK nM (aA (uv 5) (aA (uv 8) (aA (cG (own:=false) (aQ (uv 5) (uv 7)) (uv 9)) aB))))))
  bQ))))))
  (aL (fA (AL (uv 3) (aA (nJ false ["to","price","start"] 2 [4] (Bz fC (aA (uv 5) aB)) (jV (n:=2) (bN (aU (k:=2) 0 (by dsimp only [bR];decide +kernel)) (bN (aU (k:=2) 1 (by dsimp only [bR];decide +kernel)) iQ))) (vX (lW.pt (mZ (bW oG (uv 1) jO) (lV (bW u6 (uv 0) (uv 2)))))) (bZ (aA (uv 2) (aA (uv 0) (aA (uv 1) aB))))) aB))))))))
  (aL (bD (uv 3))))))) ?_
  rintro us M Q ⟨cs,tls,rfl,hT,q⟩
  refine ⟨rfl,?_⟩
  have hc6:=hT.cls.len
  have ht10:=hT.len
  refine aI fun V hV=>?_
  simp! only [bC,hName,fE,aX]
  subst hV
  refine aI fun V hV=>?_
  simp only [bC,hName]
  refine t7 (S:=⟨none,tls.map Tl.toU⟩) (M1:=M) (tls.map fun t=>(iE cs t).map gF) (fun R r=>by simp! only [true_and];exact r) (by simp) (by rw [List.length_map];exact small (by omega)) (by intro a e;cases e) (fun i x z hx hz M' _ R r=>?_) ?_
  · rw [List.getElem?_map] at hx hz
    cases ht:tls[i]? with
    | none=>rw [ht] at hx;cases hx
    | some t =>
      rw [ht] at hx hz;cases hx;cases hz
      have r:R (Option.map gF (iE cs t)) M':=r
      have hX:=hT.all t (List.mem_of_getElem? ht)
      simp! only [hName]
      refine ⟨t,rfl,?_⟩
      have hc:=hX.cost
      cases hp:t.k.pt with
      | hole c =>
        have e1:iE cs t=some (hZ cs c,hZ cs t.k.cls,t.k.cost.toNat):=by unfold iE;rw [hp]
        rw [e1] at r
        simp! only [Pt.isHole,Tl.toU,hp,Pt.toU,w4]
        refine ⟨⟨_,rfl⟩,rC (hX.hol c (by rw [hp];exact List.mem_singleton.mpr rfl)) ⟨⟨_,rfl⟩,rC hX.cls ?_⟩⟩
        have e2:U.int t.k.cost=U.int ((t.k.cost.toNat:Nat):Int):=by rw [Int.toNat_of_nonneg hc.1]
        rw [e2]
        exact r
      | any=>simp! only [Pt.isHole];have e1:iE cs t=none:=(by unfold iE;rw [hp]);rw [e1] at r;exact r
      | fr l h=>simp! only [Pt.isHole];have e1:iE cs t=none:=(by unfold iE;rw [hp]);rw [e1] at r;exact r
      | turn a=>simp! only [Pt.isHole];have e1:iE cs t=none:=(by unfold iE;rw [hp]);rw [e1] at r;exact r
      | two o a b=>simp! only [Pt.isHole];have e1:iE cs t=none:=(by unfold iE;rw [hp]);rw [e1] at r;exact r
  have est:(tls.map fun t=>(iE cs t).map gF).filterMap id=(oK cs tls).map gF:=by
    unfold oK
    clear ht10 hT q
    induction tls with
    | nil=>rfl
    | cons t l ih =>
      rw [List.map_cons,List.filterMap_cons,List.filterMap_cons]
      simp only [id]
      cases h:iE cs t with
      | none=>simp only [Option.map_none];exact ih
      | some y=>simp only [Option.map_some,List.map_cons];exact congrArg _ ih
  rw [est]
  simp only [iH]
  have hin:=JJ hT
  have hsl:(oK cs tls).length<=10:=Nat.le_trans (List.length_filterMap_le _ _) ht10
  subst hV
  refine aI fun V hV=>?_
  simp! only [bC,hName]
  refine fun p hp=>?_
  subst hV
  refine aI fun V hV=>?_
  generalize hst:oK cs tls=st at *
  let acc:Nat->List T3:=fun k=>(List.range k).flatMap fun s=>jX s (wC st (cs.length - 1) (iN cs.length s))
  refine eA (S:=⟨none,eF 0 cs.length⟩) (M1:=mup M p (.lst [])) (fun R r=>by
      simp! only [List.length_map]
      exact ⟨by omega,by omega,by rw [Int.toNat_natCast];exact r⟩)
    (fun i τ' M'=>∃ (e4 e5 e6 e7 e8 e9:Option U),τ'=[some (fE cs tls),some (aX cs),some (.lst (st.map gF)),some (.ref p),e4,e5,e6,e7,e8,e9]/\Sub M M'/\M' p=some (.lst ((acc i).map gF))/\i<=cs.length)
    ⟨none,none,none,none,none,none,rfl,(Sub.refl M).mup hp,aD,by omega⟩ (fun i τ' M' _=>fun a e=>by cases e) ?_ ?_
  · rintro i v τ' M' hi ⟨e4,e5,e6,e7,e8,e9,rfl,hsub,hMp,_⟩
    obtain ⟨rfl,hic⟩:=iY hi
    rw [show (0:Int) + (i:Int)=(i:Int) by omega]
    simp! only [hName]
    refine aI fun V2 hV2=>?_
    simp! only [bC,hName,aX,List.length_map]
    refine fun t1 ht1=>?_
    refine ⟨by omega,by omega,by rw [Int.toNat_natCast];exact small (by omega),?_⟩
    rw [Int.toNat_natCast,u0]
    refine fun r hr=>?_
    have hpt:p≠t1:=fun z=>by rw [<- z,hMp] at ht1;cases ht1
    have hpr:p≠r:=fun z=>by rw [<- z,aG hpt,hMp] at hr;cases hr
    have htr:t1≠r:=fun z=>by rw [<- z,aD] at hr;cases hr
    have hMr:M' r=none:=by rw [aG htr.symm] at hr;exact hr
    subst hV2
    refine aI fun V2 hV2=>?_
    simp! only [nS,jD,List.length_replicate]
    refine ⟨i,Am hic,?_⟩
    rw [show (U.int 0)=U.int ((0:Nat):Int) from rfl,Dl]
    generalize hM1:mup M' t1 (.lst [U.non])=M1 at *
    have hsub1:Sub M M1:=by rw [<- hM1];exact hsub.mup (by
      cases q1:M t1 with
      | none=>rfl
      | some mo=>rw [hsub t1 mo q1] at ht1;cases ht1)
    have hM1p:M1 p=some (.lst ((acc i).map gF)):=by rw [<- hM1,aG hpt];exact hMp
    have e0:(List.replicate cs.length none).set i (some 0)=iN cs.length i:=rfl
    rw [e0]
    subst hV2
    refine aI fun V2 hV2=>?_
    show Dg _ _ _ _
    unfold Dg
    refine eA (S:=⟨none,eF 0 (cs.length - 1)⟩) (M1:=mup M1 r (.lst (bH (iN cs.length i)))) (fun R r=>by
        simp! only [List.length_map]
        exact ⟨by omega,by omega,by rw [show ((cs.length:Int) - 1).toNat=cs.length - 1 by omega];exact r⟩)
      (fun j τ' M'=>∃ (e6 e7 e8 e9:Option U),τ'=[some (fE cs tls),some (aX cs),some (.lst (st.map gF)),some (.ref p),some (.int (i:Int)),some (.ref r),e6,e7,e8,e9]/\M'=mup M1 r (.lst (bH (wC st j (iN cs.length i)))))
      ⟨e6,e7,e8,e9,rfl,rfl⟩ (fun i τ' M' _=>fun a e=>by cases e) ?_ ?_
    · rintro j v τ' M' hj ⟨e6,e7,e8,e9,rfl,rfl⟩
      obtain ⟨rfl,hjc⟩:=iY hj
      simp! only [hName]
      generalize hg:wC st j (iN cs.length i)=l0
      have hl0:l0.length=cs.length:=by rw [<- hg,rP,iN,List.length_set,List.length_replicate]
      refine eA (S:=⟨none,st.map gF⟩) (M1:=mup M1 r (.lst (bH l0))) (fun R r=>by simp! only [true_and];exact r)
        (fun k τ' M'=>∃ (e6 e7 e8 e9:Option U),τ'=[some (fE cs tls),some (aX cs),some (.lst (st.map gF)),some (.ref p),some (.int (i:Int)),some (.ref r),e6,e7,e8,e9]/\M'=mup M1 r (.lst (bH ((st.take k).foldl iV l0))))
        ⟨_,e7,e8,e9,rfl,rfl⟩ (fun i τ' M' _=>fun a e=>by cases e) ?_ ?_
      · rintro k v τ' M' hk ⟨e6,e7,e8,e9,rfl,rfl⟩
        rw [List.getElem?_map] at hk
        cases hx:st[k]? with
        | none=>rw [hx] at hk;cases hk
        | some x =>
          rw [hx] at hk;cases hk
          obtain ⟨h1,h2⟩:=hin x (List.mem_of_getElem? hx)
          have htk:(st.take (k + 1)).foldl iV l0=iV ((st.take k).foldl iV l0) x:=by
            rw [List.take_add_one,hx];simp [List.foldl_append]
          rw [htk]
          have hll:((st.take k).foldl iV l0).length=cs.length:=by rw [nN,hl0]
          generalize (st.take k).foldl iV l0=l at *
          obtain ⟨v,hv⟩:∃ v,l[x.1]?=some v:=⟨_,List.getElem?_eq_getElem (by omega)⟩
          have hat:=rW hv
          simp! only [i5,iD,kM,hName,gF]
          refine cB fun A B hA hB=>?_
          cases v with
          | none =>
            simp! only [hat,oN]
            subst hB
            simp only [cA]
            rw [Ju hv]
            exact ⟨_,_,_,_,rfl,rfl⟩
          | some n =>
            simp! only [hat,oN]
            subst hA
            simp! only [fM,hat,oN]
            refine ⟨r,l,x.2.1,n + x.2.2,by push_cast;rfl,aD,by omega,?_⟩
            rw [aV,JT hv]
            exact ⟨_,_,_,_,rfl,rfl⟩
      · rintro τ' M' ⟨e6,e7,e8,e9,rfl,rfl⟩
        refine ⟨_,_,_,_,rfl,?_⟩
        show mup M1 r (.lst (bH ((st.take (st.map gF).length).foldl iV l0)))=_
        rw [List.length_map,List.take_length,<- hg];rfl
    · rintro τ' M' ⟨e6,e7,e8,e9,rfl,rfl⟩
      rw [gX]
      generalize hg:wC st (cs.length - 1) (iN cs.length i)=l
      have hll:l.length=cs.length:=by rw [<- hg,rP,iN,List.length_set,List.length_replicate]
      have hM1r:M1 r=none:=by rw [<- hM1,aG htr.symm];exact hMr
      refine ⟨_,M1,HM (i:=5) (a:=r) (u:=.lst (bH l)) ((Sub.refl M1).mup hM1r) (fun K H rm st=>lP rm aD hM1r st) rfl,?_⟩
      show V2 _ _
      subst hV2
      simp! only [fM,hM1p]
      refine ⟨⟨_,bT hM1p⟩,?_⟩
      refine t7 (S:=⟨none,numbered (bH l)⟩) (M1:=M1) (l.zipIdx.map fun p=>C6 i p.1 p.2) (fun R r=>by simp! only [true_and];exact r) (by simp [mV,jD]) (by rw [mV,jD];exact small (by omega)) (by intro a e;cases e) (fun k x z hx hz M' _ R r=>?_) ?_
      · obtain ⟨u,hu,rfl⟩:=pZ hx
        rw [bH,List.getElem?_map] at hu
        cases hv:l[k]? with
        | none=>rw [hv] at hu;cases hu
        | some v =>
          rw [hv] at hu;cases hu
          rw [List.getElem?_map,List.getElem?_zipIdx,hv] at hz
          simp only [Option.map_some,Option.some.injEq,Nat.zero_add] at hz
          subst hz
          simp! only [i5,iD,kM,hName]
          cases v with
          | none =>
            simp! only [oN,C6,vB,Option.map_none] at r ⊢
            exact r
          | some n =>
            simp! only [oN,C6,vB] at r ⊢
            by_cases hk:k=i
            · subst hk
              simp! only [Option.map_none] at r ⊢
              exact r
            · have hk':¬ (k:Int)=(i:Int):=by omega
              rw [if_neg hk] at r
              simp! only [decide_eq_false hk']
              exact r
      · rw [Ke]
        simp! only [hM1p]
        have hac:(acc i).length<=i * cs.length:=by have:=A0 cs tls i;rw [hst] at this;exact this
        have hlo:(jX i l).length<=cs.length:=by have:=Di (s:=i) (l:=l);omega
        have hmul:i * cs.length<=36:=by
          have h1:i<=6:=by omega
          exact Nat.le_trans (Nat.mul_le_mul h1 hc6) (by decide)
        refine ⟨by rw [List.length_map,List.length_map];exact small (by omega),?_⟩
        refine ⟨_,_,_,_,_,_,rfl,?_,?_,by omega⟩
        · exact fun b mo e=>by
            have hb:b≠p:=fun z=>by rw [z,hp] at e;cases e
            rw [aG hb];exact hsub1 b mo e
        · first | rw [aD,<- List.map_append] | rw [<- List.map_append]
          have:acc (i + 1)=acc i++jX i l:=by
            show (List.range (i + 1)).flatMap _=_
            rw [List.range_succ,List.flatMap_append,List.flatMap_cons,List.flatMap_nil,List.append_nil,hg]
          rw [this]
  · rintro τ' M' ⟨e4,e5,e6,e7,e8,e9,rfl,hsub,hMp,_⟩
    rw [gX] at hMp
    subst hV
    simp! only [bV]
    have e:bO cs tls=acc cs.length:=by unfold bO;rw [hst]
    rw [e] at q
    exact ⟨_,M,hsub,.inr ⟨p,_,rfl,hMp,hp,rfl⟩,q⟩
def eD (cs:List Str) (ps:List Pt):List U:=cs.map U.str++ps.map Pt.toU
def o9 (cs:List Str) (ps:List Pt):List PyData:=cs.map PyData.str++ps.map bM
theorem B8 (ps:List Pt):∀ cs:List Str,dY (eD cs ps)=some (o9 cs ps)
 | []=>by simpa [eD,o9] using Ey ps
 | s :: cs=>by
  have h:dY (cs.map U.str++ps.map Pt.toU)=some (o9 cs ps):=B8 ps cs
  simp only [eD,List.map_cons,List.cons_append,dY,toD,h];rfl
theorem CT {ps:List Pt} (hp:∀ p∈ps,gI p):∀ cs:List Str,(∀ s∈cs,PyData.strOk s=true)->PyData.canLayAll0 (o9 cs ps)=true
 | [],_=>by simpa [o9] using Hw ps hp
 | s :: cs,h=>by
  have ih:PyData.canLayAll0 (cs.map PyData.str++ps.map bM)=true:=CT hp cs fun x hx=>h x (List.mem_cons_of_mem _ hx)
  simp only [o9,List.map_cons,List.cons_append,PyData.canLayAll0,PyData.canLay0,h s List.mem_cons_self,ih,Bool.and_self]
def HG (ds:List PyData) (d:PyData):Nat:=ds.findIdx fun e=>PyData.eqv e d
theorem HH {ds:List PyData} {d:PyData} (h:∃ e∈ds,PyData.eqv e d=true):HG ds d < ds.length/\(∃ e,ds[HG ds d]?=some e/\PyData.eqv e d=true)/\∀ m e,m < HG ds d->ds[m]?=some e->PyData.eqv e d=false:=by
 have hl:HG ds d < ds.length:=List.findIdx_lt_length_of_exists h
 refine ⟨hl,⟨_,List.getElem?_eq_getElem hl,List.findIdx_getElem (w:=hl) (p:=fun e=>PyData.eqv e d)⟩,fun m e hm hz=>?_⟩
 have hml:m < ds.length:=by omega
 rw [List.getElem?_eq_getElem hml] at hz
 have:=List.not_of_lt_findIdx (p:=fun e=>PyData.eqv e d) hm
 rw [<- Option.some.inj hz];simpa using this
inductive Cl where
 | c (s:Str) | p (q:Pt)
def Cl.U:Cl->U
 | .c s=>.str s
 | .p q=>q.toU
def Cl.D:Cl->PyData
 | .c s=>.str s
 | .p q=>bM q
def yU (cs:List Str) (ps:List Pt):Cl->Prop
 | .c s=>s∈cs/\PyData.strOk s=true
 | .p q=>gI q/\∃ e∈ps,PyData.eqv (bM e) (bM q)=true
theorem Pj {M:aF} (c:Cl):qQ M c.U=some c.D:=by
 cases c with
 | c s=>rfl
 | p q =>
  obtain ⟨z,r,e,_⟩:=uY q
  show qQ M q.toU=some (bM q)
  rw [<- vR q,e];rfl
theorem yU.in {cs:List Str} {ps:List Pt} {c:Cl} (h:yU cs ps c):(∃ e∈o9 cs ps,PyData.eqv e c.D=true)/\c.D.canLay0=true/\c.D.depth<=60:=by
 cases c with
 | c s =>
  have hl:(PyData.str s).canLay0=true:=by simp only [PyData.canLay0];exact h.2
  exact ⟨⟨.str s,List.mem_append_left _ (List.mem_map.mpr ⟨s,h.1,rfl⟩),SeqAt.eqv_refl _ hl⟩,hl,by simp [Cl.D,PyData.depth]⟩
 | p q =>
  obtain ⟨hf,e,he,hq⟩:=h
  have hd:=rA q
  have:=hf.2
  exact ⟨⟨bM e,List.mem_append_right _ (List.mem_map.mpr ⟨e,he,rfl⟩),hq⟩,tI q hf.1,by show (bM q).depth<=60;omega⟩
def rT (cs:List Str) (ps:List Pt) (c:Cl):Nat:=HG (o9 cs ps) c.D
theorem xA {cs:List Str} {ps:List Pt} {c:Cl} (h:yU cs ps c):rT cs ps c < cs.length + ps.length:=by
 have:=(HH h.in.1).1
 simpa [rT,o9] using this
theorem Jk {cs:List Str} {ps:List Pt} {M:aF} {x:U} {c:Cl} {Q:UK} (hv:view M x=.lst (eD cs ps)) (hcs:∀ s∈cs,PyData.strOk s=true) (hps:∀ p∈ps,gI p) (hc:yU cs ps c) (q:Q (.int (rT cs ps c:Nat)) M):AJ x [c.U] M Q:=by
 obtain ⟨h1,h2,h3⟩:=hc.in
 obtain ⟨_,h4,h5⟩:=HH h1
 exact ⟨_,_,_,_,_,hv,rfl,B8 ps cs,Pj c,CT hps cs hcs,h2,h3,h4,h5,q⟩
def nU:Pt->Cl
 | .hole c=>.c c
 | p=>.p p
abbrev R3:=Nat × Nat × List Nat
abbrev L3:=Nat × Nat × Pt
def gH (r:R3):U:=.tup [.int (r.1:Int),.int (r.2.1:Int),.lst (r.2.2.map fun (n:Nat)=>.int (n:Int))]
def nX (r:L3):U:=.tup [.int (r.1:Int),.int (r.2.1:Int),r.2.2.toU]
def rE:Pt->Option Nat
 | .turn _=>some 0
 | .two .sum _ _=>some 1
 | .two .less _ _=>some 2
 | .two .by_ _ _=>some 3
 | _=>none
def qJ (g:Nat->U):List (Key × U):=[(.inr "turn",g 0),(.inr "sum",g 1),(.inr "less",g 2),(.inr "by",g 3)]
theorem zT {p:Pt} {k:Nat} (h:rE p=some k) (g:Nat->U):∃ z,p.toU=.tup (.str z :: p.parts.map Pt.toU)/\(cH cR z).isSome=true/\qU (qJ g) (.inr z)=some (g k)/\k < 4:=by
 cases p with
 | turn a=>cases h;exact ⟨_,rfl,by decide +kernel,rfl,by omega⟩
 | two o a b=>cases o <;> cases h <;> exact ⟨_,rfl,by decide +kernel,rfl,by omega⟩
 | _=>cases h
theorem IX {p:Pt} (h:rE p=none):p.leafy=true:=by
 cases p with
 | turn a=>cases h
 | two o a b=>cases o <;> cases h
 | _=>rfl
def BQ (cs:List Str) (ps:List Pt) (price:Nat) (c:Cl) (p:Pt):R3:=(rT cs ps c,price,p.parts.map fun a=>rT cs ps (nU a))
def BW (cs:List Str) (ps:List Pt) (price:Nat) (c:Cl) (p:Pt):L3:=(rT cs ps c,price,p)
def Ji (C:Addr):bG:=fun us M Q=>∃ (x dx pc pl pd:Addr) (g:Nat->Addr) (cs:List Str) (ps:List Pt) (fs:List (Str × U)) (leaf:List L3) (sg:Nat->List R3) (c:Cl) (price:Nat) (p:Pt),
 us=[.ref x,c.U,.int (price:Int),p.toU]/\M x=some (.ins C dx fs)/\fs.lookup (Str.ofString "columns")=some (.ref pc)/\fs.lookup (Str.ofString "leaf_rules")=some (.ref pl)/\fs.lookup (Str.ofString "sign_rules")=some (.ref pd)/\fs.lookup (Str.ofString "wire")=none /\
 M pc=some (.lst (eD cs ps))/\M pl=some (.lst (leaf.map nX))/\M pd=some (.dK (qJ fun k=>.ref (g k)))/\(∀ k,k < 4->M (g k)=some (.lst ((sg k).map gH)))/\(∀ s∈cs,PyData.strOk s=true)/\(∀ q∈ps,gI q)/\leaf.length < 10000/\(∀ k,(sg k).length < 10000) /\
 yU cs ps c/\(∀ a∈p.parts,yU cs ps (nU a)) /\
 (rE p=none->Q .non (mup M pl (.lst ((leaf++[BW cs ps price c p]).map nX))))/\∀ k,rE p=some k->Q .non (mup M (g k) (.lst ((sg k++[BQ cs ps price c p]).map gH)))
theorem p9 (p:Pt):p.parts.length<=2:=by cases p <;> simp [Pt.parts]
theorem Jg (a:Pt):∃ z r,a.toU=.tup (.str z :: r)/\(decide (z=Str.ofString "at")=true->dP (U.str z :: r) 1=some (nU a).U)/\(decide (z=Str.ofString "at")=false->a.toU=(nU a).U):=by
 obtain ⟨z,r,e,hz⟩:=qI a
 refine ⟨z,r,e,fun h=>?_,fun h=>?_⟩
 ·rw [h] at hz
  cases a with
  | hole c=>cases e;rfl
  | _=>cases hz
 ·rw [h] at hz
  cases a with
  | hole c=>cases hz
  | _=>rfl
theorem Nc {C:Addr} (F:cK K "wire" "Wiring.wire" gO f fd) (hmt:Meth K C "wire" f) (c_Wiring:L2.fQ K C) (n_columns:bY K C "columns") (n_leaf_rules:bY K C "leaf_rules") (n_sign_rules:bY K C "sign_rules") (fB:jP P w K d cR) (eZ:mg "SIGNS"=some (.ref d)) (dB:Callee P w K mg base 1 "parts_of" i6 []):vP P w K mg base 2 C "wire" (Ji C):=by
 refine Fq F hmt nK (He fun _ _ _ _ _ _ _ _ _ _=>rfl) (fun us M Q h=>by obtain ⟨_,_,_,_,_,_,_,_,_,_,_,_,_,_,rfl,_⟩:=h;rfl) (aE (aS 4 nK.nd (AO (dU c_Wiring n_columns (uv 0)) (aA (uv 1) aB)))
 (aL (cM (bW (EJ fB) (aQ (uv 3) aP) (xX eZ))
 (aE (nB 5 nK.nd false ["part"] 1 [] (dS (aK dB (aA (uv 3) aB))) (aU (k:=1) 0 (by dsimp only [bR];decide +kernel)) jJ (BN (bW j9 (aQ (uv 0) aP) fV) (aQ (uv 0) aP) (uv 0)))
 (aL (fA (jT (Ae false FU (dU c_Wiring n_sign_rules (uv 0)) (aQ (uv 3) aP)) (aA (bZ (aA (uv 4) (aA (uv 2) (aA (nJ false ["draw","self"] 1 [0] (dS (uv 5)) (aU (k:=1) 0 (by dsimp only [bR];decide +kernel)) jJ (AO (dU c_Wiring n_columns (uv 1)) (aA (uv 0) aB))) aB)))) aB)))))
 (aL (fA (jT (dU c_Wiring n_leaf_rules (uv 0)) (aA (bZ (aA (uv 4) (aA (uv 2) (aA (uv 3) aB)))) aB))))))) ?_
 rintro us M Q ⟨x,dx,pc,pl,pd,g,cs,ps,fs,leaf,sg,c,price,p,rfl,hx,l1,l2,l3,l4,hpc,hpl,hpd,hg,hcs,hps,hleaf,hsg,hc,hparts,q1,q2⟩
 have f1:dF C (Str.ofString "columns") (.ref x) M=some (.ref pc):=(cD hx).trans l1
 have f2:dF C (Str.ofString "leaf_rules") (.ref x) M=some (.ref pl):=(cD hx).trans l2
 have f3:dF C (Str.ofString "sign_rules") (.ref x) M=some (.ref pd):=(cD hx).trans l3
 refine aI fun V hV=>?_
 simp! only [bC,hName,g6,f1]
 refine ⟨⟨_,bT hpc⟩,Jk (bT hpc) hcs hps hc ?_⟩
 subst hV
 refine cB fun A B hA hB=>?_
 cases hsx:rE p with
 | none =>
  obtain ⟨z,r,e,hz,_⟩:=uY p
  rw [IX hsx] at hz
  have hz':(cH cR z).isSome=false:=hz
  simp! only [e,dG,hz']
  subst hB
  simp! only [fM,g6,f2,hpl]
  refine ⟨⟨_,bT hpl⟩,by rw [List.length_map];exact big (by omega),?_⟩
  have:=q1 hsx
  rw [List.map_append] at this
  exact aW this
 | some k =>
  obtain ⟨z,e,hz,hv,hk⟩:=zT hsx (fun k=>U.ref (g k))
  simp! only [e,dG,hz]
  subst hA
  refine aI fun V hV=>?_
  simp only [bC,hName]
  refine gS (S:=⟨none,p.parts.map Pt.toU⟩) (M1:=M) (p.parts.map fun a=>(nU a).U) (fun R r=>by
    simp! only [e]
    exact ⟨z,_,true,rfl,hz,by rw [List.length_map];have:=p9 p;omega,r⟩) (by simp) (by rw [List.length_map];exact small (by have:=p9 p;omega)) (by intro a e;cases e) (fun i xx y hxx hy M' _ R r=>?_) ?_
  ·rw [List.getElem?_map] at hxx hy
   cases ha:p.parts[i]? with
   | none=>rw [ha] at hxx;cases hxx
   | some a =>
    rw [ha] at hxx hy;cases hxx;cases hy
    obtain ⟨z2,r2,e2,h1,h2⟩:=Jg a
    simp! only [hName,e2]
    cases hd:decide (z2=Str.ofString "at") with
    | true=>simp! only [h1 hd];exact r
    | false=>simp! only [true_and];rw [<- e2,h2 hd];exact r
  ·simp only [iH]
   subst hV
   have hkp:=hg k hk
   simp! only [fM,g6,f3,vJ,vO,CC,hpd,uO,e,hv]
   refine ⟨⟨_,bT hkp⟩,?_⟩
   refine gS (S:=⟨none,p.parts.map fun a=>(nU a).U⟩) (M1:=M) ((p.parts.map fun a=>rT cs ps (nU a)).map fun (n:Nat)=>U.int (n:Int)) (fun R r=>by simp! only [true_and];exact r) (by simp) (by rw [List.length_map];exact small (by have:=p9 p;omega)) (by intro a e;cases e) (fun i xx y hxx hy M' hS R r=>?_) ?_
   ·rw [List.getElem?_map] at hxx
    rw [List.map_map,List.getElem?_map] at hy
    cases ha:p.parts[i]? with
    | none=>rw [ha] at hxx;cases hxx
    | some a =>
     rw [ha] at hxx hy;cases hxx;cases hy
     have f1':dF C (Str.ofString "columns") (.ref x) M'=some (.ref pc):=(cD (hS x _ hx)).trans l1
     have hpc':=hS pc _ hpc
     simp! only [hName,g6,f1']
     exact ⟨⟨_,bT hpc'⟩,Jk (bT hpc') hcs hps (hparts a (List.mem_of_getElem? ha)) r⟩
   ·simp! only [hkp]
    refine ⟨by rw [List.length_map];exact big (by have:=hsg k;omega),?_⟩
    have:=q2 k hsx
    rw [List.map_append] at this
    exact aW this
theorem sU (p:Pt):p∈fO p:=by cases p <;> simp [fO]
theorem lK {α:Type} {l:List α} {x:α} (h:x∈l.tail):x∈l:=by
 cases l with
 | nil=>cases h
 | cons a l=>exact List.mem_cons_of_mem _ h
theorem tH {p a:Pt} (h:a∈p.parts):∀ x∈fO a,x∈(fO p).tail:=fun x hx=>by
 cases p with
 | turn b=>cases List.mem_singleton.mp h;exact hx
 | two o b c =>
  have h':a=b\/a=c:=by simpa [Pt.parts] using h
  rcases h' with rfl | rfl
  ·exact List.mem_append_left _ hx
  ·exact List.mem_append_right _ hx
 | _=>cases h
theorem oI:∀ {p q:Pt},q∈fO p->∀ a∈q.parts,a∈(fO p).tail
 | .hole c,q,h,a,ha=>by cases List.mem_singleton.mp h;cases ha
 | .any,q,h,a,ha=>by cases List.mem_singleton.mp h;cases ha
 | .fr l h',q,h,a,ha=>by cases List.mem_singleton.mp h;cases ha
 | .turn b,q,h,a,ha=>by
  rcases List.mem_cons.mp h with rfl | h
  ·exact tH ha a (sU a)
  ·exact lK (oI h a ha)
 | .two o b c,q,h,a,ha=>by
  rcases List.mem_cons.mp h with rfl | h
  ·exact tH ha a (sU a)
  ·rcases List.mem_append.mp h with h | h
   ·exact List.mem_append_left _ (lK (oI h a ha))
   ·exact List.mem_append_right _ (lK (oI h a ha))
theorem vK:∀ {p q:Pt},q∈fO p->∀ s∈q.hol,s∈p.hol
 | .hole c,q,h,s,hs=>by cases List.mem_singleton.mp h;exact hs
 | .any,q,h,s,hs=>by cases List.mem_singleton.mp h;exact hs
 | .fr l h',q,h,s,hs=>by cases List.mem_singleton.mp h;exact hs
 | .turn b,q,h,s,hs=>by
  rcases List.mem_cons.mp h with rfl | h
  ·exact hs
  ·exact vK (p:=b) h s hs
 | .two o b c,q,h,s,hs=>by
  rcases List.mem_cons.mp h with rfl | h
  ·exact hs
  ·rcases List.mem_append.mp h with h | h
   ·exact List.mem_append_left _ (vK (p:=b) h s hs)
   ·exact List.mem_append_right _ (vK (p:=c) h s hs)
theorem IJ {acc:List Pt} {q e:Pt} (h:e∈acc):e∈cS acc q:=by
 unfold cS
 split
 ·exact h
 ·split
  ·exact h
  ·exact List.mem_append_left _ h
theorem A7:∀ (l:List Pt) {acc:List Pt} {e:Pt},e∈acc->e∈l.foldl cS acc
 | [],_,_,h=>h
 | q :: l,_,_,h=>A7 l (IJ h)
theorem Ka {acc:List Pt} {q:Pt} (h:q.isHole=false) (ok:q.ok):∃ e∈cS acc q,PyData.eqv (bM e) (bM q)=true:=by
 cases k:acc.any (fun e=>PyData.eqv (bM e) (bM q)) with
 | true =>
  rw [Eo h k]
  obtain ⟨e,he,hq⟩:=List.any_eq_true.mp k
  exact ⟨e,he,hq⟩
 | false =>
  rw [B5 h k]
  exact ⟨q,List.mem_append_right _ (List.mem_singleton.mpr rfl),SeqAt.eqv_refl _ (tI q ok)⟩
theorem C9:∀ (l:List Pt) (acc:List Pt) (q:Pt),q∈l->q.isHole=false->q.ok->∃ e∈l.foldl cS acc,PyData.eqv (bM e) (bM q)=true
 | [],_,_,h,_,_=>by cases h
 | x :: l,acc,q,h,hh,ok=>by
  rcases List.mem_cons.mp h with rfl | h
  ·obtain ⟨e,he,hq⟩:=Ka (acc:=acc) hh ok
   exact ⟨e,A7 l he,hq⟩
  ·exact C9 l _ q h hh ok
theorem A4:∀ (l acc:List Pt) (e:Pt),e∈l.foldl cS acc->e∈acc\/(e∈l/\e.isHole=false)
 | [],_,_,h=>.inl h
 | x :: l,acc,e,h=>by
  rcases A4 l _ e h with h | h
  ·unfold cS at h
   split at h
   ·exact .inl h
   ·rename_i hx
    split at h
    ·exact .inl h
    ·rcases List.mem_append.mp h with h | h
     ·exact .inl h
     ·cases List.mem_singleton.mp h;exact .inr ⟨List.mem_cons_self,by simpa using hx⟩
  ·exact .inr ⟨List.mem_cons_of_mem _ h.1,h.2⟩
section
variable {cs:List Str} {tls:List Tl}
theorem yV {e:Pt} (h:e∈aN tls):∃ t∈tls,e∈dZ t/\e.isHole=false:=by
 rcases A4 _ [] e h with h | ⟨h,hh⟩
 ·cases h
 ·obtain ⟨t,ht,he⟩:=List.mem_flatMap.mp h
  exact ⟨t,ht,he,hh⟩
theorem u5 (hT:mM cs tls) {t:Tl} (ht:t∈tls) {a:Pt} (ha:a∈dZ t):yU cs (aN tls) (nU a):=by
 have hX:=hT.all t ht
 have hf:=tZ hT.tab t ht a (lK ha)
 cases hh:a.isHole with
 | true =>
  cases a with
  | hole c =>
   have hc:=hX.hol c (vK (lK ha) c (List.mem_singleton.mpr rfl))
   exact ⟨hc,hT.cls.ok c hc⟩
  | _=>cases hh
 | false =>
  have e:nU a=.p a:=by
   cases a with
   | hole c=>cases hh
   | _=>rfl
  rw [e]
  exact ⟨hf,C9 _ [] a (List.mem_flatMap.mpr ⟨t,ht,ha⟩) hh hf.1⟩
theorem zG (hT:mM cs tls):∀ p∈aN tls,gI p:=by
 have h:=(Dx hT.tab tls.length).1
 rw [List.take_length] at h
 exact h
theorem AZ (hT:mM cs tls):(aN tls).length<=640:=by
 have h:=(Dx hT.tab tls.length).2
 rw [List.take_length] at h
 exact h
end
abbrev WT:=List L3 × (Nat->List R3)
def addW (cs:List Str) (ps:List Pt) (st:WT) (c:Cl) (price:Nat) (p:Pt):WT:=match rE p with
 | none=>(st.1++[BW cs ps price c p],st.2)
 | some k=>(st.1,fun j=>if j=k then st.2 j++[BQ cs ps price c p] else st.2 j)
def m6 (cs:List Str) (ps:List Pt) (st:WT) (t:Tl):WT:=if t.k.pt.isHole then st else addW cs ps st (.c t.k.cls) t.k.cost.toNat t.k.pt
def nE (cs:List Str) (ps:List Pt) (st:WT) (p:Pt):WT:=addW cs ps st (.p p) 0 p
def kJ (cs:List Str) (tls:List Tl):WT:=(aN tls).foldl (nE cs (aN tls)) (tls.foldl (m6 cs (aN tls)) ([],fun _=>[]))
def wD (cs:List Str) (lds:List T3) (pc pl pd:Addr):List (Str × U):=[(Str.ofString "classes",aX cs),(Str.ofString "columns",.ref pc),(Str.ofString "leads",.lst (lds.map gF)),(Str.ofString "leaf_rules",.ref pl),(Str.ofString "sign_rules",.ref pd)]
def eQ (cs:List Str) (ps:List Pt) (lds:List T3) (st:WT):List (Str × U):=[(Str.ofString "classes",aX cs),(Str.ofString "columns",.lst (eD cs ps)),(Str.ofString "leads",.lst (lds.map gF)),(Str.ofString "leaf_rules",.lst (st.1.map nX)),(Str.ofString "sign_rules",zR (qJ fun k=>.lst ((st.2 k).map gH)))]
structure uM (M:aF) (C x dx pc pl pd:Addr) (g:Nat->Addr) (cs:List Str) (ps:List Pt) (lds:List T3) (st:WT) (M':aF):Prop where
 ins:M' x=some (.ins C dx (wD cs lds pc pl pd))
 col:M' pc=some (.lst (eD cs ps))
 lf:M' pl=some (.lst (st.1.map nX))
 dic:M' pd=some (.dK (qJ fun k=>.ref (g k)))
 rul:∀ k,k < 4->M' (g k)=some (.lst ((st.2 k).map gH))
 old:∀ b mo,b≠x->M b=some mo->M' b=some mo
structure WD (M:aF) (pc pl pd:Addr) (g:Nat->Addr):Prop where
 pcl:pc≠pl
 gpc:∀ k,k < 4->g k≠pc
 gpl:∀ k,k < 4->g k≠pl
 gg:∀ j k,j < 4->k < 4->j≠k->g j≠g k
 nc:M pc=none
 nl:M pl=none
 nd:M pd=none
 ng:∀ k,k < 4->M (g k)=none
section
variable {M M':aF} {C x dx pc pl pd:Addr} {g:Nat->Addr} {cs:List Str} {ps:List Pt} {lds:List T3} {st:WT}
theorem uM.leaf (h:uM M C x dx pc pl pd g cs ps lds st M') (D:WD M pc pl pd g) (r:L3):uM M C x dx pc pl pd g cs ps lds (st.1++[r],st.2) (mup M' pl (.lst ((st.1++[r]).map nX))):=by
 have e1:x≠pl:=fun z=>by have a:=h.ins;rw [z,h.lf] at a;cases a
 have e2:pd≠pl:=fun z=>by have a:=h.dic;rw [z,h.lf] at a;cases a
 exact ⟨by rw [aG e1];exact h.ins,by rw [aG D.pcl];exact h.col,aD,by rw [aG e2];exact h.dic,fun k hk=>by rw [aG (D.gpl k hk)];exact h.rul k hk,
  fun b mo hb e=>by rw [aG (fun z=>by rw [z,D.nl] at e;cases e)];exact h.old b mo hb e⟩
theorem uM.sign (h:uM M C x dx pc pl pd g cs ps lds st M') (D:WD M pc pl pd g) (r:R3) {k:Nat} (hk:k < 4):uM M C x dx pc pl pd g cs ps lds (st.1,fun j=>if j=k then st.2 j++[r] else st.2 j) (mup M' (g k) (.lst ((st.2 k++[r]).map gH))):=by
 have hg:=h.rul k hk
 have e1:x≠g k:=fun z=>by have a:=h.ins;rw [z,hg] at a;cases a
 have e2:pd≠g k:=fun z=>by have a:=h.dic;rw [z,hg] at a;cases a
 refine ⟨by rw [aG e1];exact h.ins,by rw [aG (D.gpc k hk).symm];exact h.col,by rw [aG (D.gpl k hk).symm];exact h.lf,by rw [aG e2];exact h.dic,fun j hj=>?_,
  fun b mo hb e=>by rw [aG (fun z=>by rw [z,D.ng k hk] at e;cases e)];exact h.old b mo hb e⟩
 by_cases e:j=k
 ·subst e;rw [aD];simp only [if_true]
 ·rw [aG (D.gg j k hj hk e)];simp only [if_neg e];exact h.rul j hj
theorem Of:(wD cs lds pc pl pd).lookup (Str.ofString "columns")=some (.ref pc)/\(wD cs lds pc pl pd).lookup (Str.ofString "leaf_rules")=some (.ref pl)/\(wD cs lds pc pl pd).lookup (Str.ofString "sign_rules")=some (.ref pd)/\(wD cs lds pc pl pd).lookup (Str.ofString "wire")=none/\(wD cs lds pc pl pd).lookup (Str.ofString "classes")=some (aX cs):=⟨rfl,rfl,rfl,rfl,rfl⟩
end
def qR (st:WT) (n:Nat):Prop:=st.1.length<=n/\∀ k,(st.2 k).length<=n
theorem rG {cs:List Str} {ps:List Pt} {st:WT} {c:Cl} {pr n:Nat} {p:Pt} (h:qR st n):qR (addW cs ps st c pr p) (n + 1):=by
 unfold addW
 split
 ·exact ⟨by simp only [List.length_append,List.length_cons,List.length_nil];have:=h.1;omega,fun k=>by have:=h.2 k;simp only;omega⟩
 ·refine ⟨by have:=h.1;simp only;omega,fun k=>?_⟩
  have:=h.2 k
  simp only
  split
  ·simp only [List.length_append,List.length_cons,List.length_nil];omega
  ·omega
structure C5 (M:aF) (C x dx pc pl pd:Addr) (g:Nat->Addr) (cs:List Str) (ps:List Pt) (lds:List T3) (i:Nat) (M':aF):Prop where
 ins:M' x=some (.ins C dx (wD cs lds pc pl pd))
 col:M' pc=some (.lst (eD cs ps))
 lf:M' pl=some (.lst [])
 dic:M' pd=some (.dK ((qJ fun k=>.ref (g k)).take i))
 rul:∀ k,k < i->M' (g k)=some (.lst [])
 old:∀ b mo,b≠x->M b=some mo->M' b=some mo
 ds:(∀ k,k < i->g k≠pc)/\(∀ k,k < i->g k≠pl)/\(∀ k,k < i->M (g k)=none)/\∀ j k,j < i->k < i->j≠k->g j≠g k
theorem C5.next {M M':aF} {C x dx pc pl pd r:Addr} {g:Nat->Addr} {cs:List Str} {ps:List Pt} {lds:List T3} {i:Nat} (W:C5 M C x dx pc pl pd g cs ps lds i M') (hMd:M pd=none) (hr:M' r=none) (hi:i < 4) :
  C5 M C x dx pc pl pd (fun k=>if k=i then r else g k) cs ps lds (i + 1) (mup (mup M' r (.lst [])) pd (.dK ((qJ fun k=>U.ref (if k=i then r else g k)).take (i + 1)))):=by
 have er:x≠r:=fun z=>by rw [<- z,W.ins] at hr;cases hr
 have erd:pd≠r:=fun z=>by rw [<- z,W.dic] at hr;cases hr
 have erc:pc≠r:=fun z=>by rw [<- z,W.col] at hr;cases hr
 have erl:pl≠r:=fun z=>by rw [<- z,W.lf] at hr;cases hr
 have exd:x≠pd:=fun z=>by have a:=W.ins;rw [z,W.dic] at a;cases a
 have ecd:pc≠pd:=fun z=>by have a:=W.col;rw [z,W.dic] at a;cases a
 have eld:pl≠pd:=fun z=>by have a:=W.lf;rw [z,W.dic] at a;cases a
 have hMr:M r=none:=by
  cases h:M r with
  | none=>rfl
  | some mo=>rw [W.old r mo er.symm h] at hr;cases hr
 have hgr:∀ k,k < i->g k≠r:=fun k hk z=>by have a:=W.rul k hk;rw [z,hr] at a;cases a
 have hgd:∀ k,k < i->g k≠pd:=fun k hk z=>by have a:=W.rul k hk;rw [z,W.dic] at a;cases a
 refine ⟨by rw [aG exd,aG er];exact W.ins,by rw [aG ecd,aG erc];exact W.col,by rw [aG eld,aG erl];exact W.lf,aD,fun k hk=>?_,fun b mo hb e=>?_,fun k hk=>?_,fun k hk=>?_,fun k hk=>?_,fun j k hj hk hjk=>?_⟩
 ·by_cases e:k=i
  ·simp only [if_pos e];rw [aG erd.symm,aD]
  ·simp only [if_neg e];rw [aG (hgd k (by omega)),aG (hgr k (by omega))];exact W.rul k (by omega)
 ·rw [aG (fun z=>by rw [z,hMd] at e;cases e),aG (fun z=>by rw [z,hMr] at e;cases e)];exact W.old b mo hb e
 ·by_cases e:k=i
  ·simp only [if_pos e];exact erc.symm
  ·simp only [if_neg e];exact W.ds.1 k (by omega)
 ·by_cases e:k=i
  ·simp only [if_pos e];exact erl.symm
  ·simp only [if_neg e];exact W.ds.2.1 k (by omega)
 ·by_cases e:k=i
  ·simp only [if_pos e];exact hMr
  ·simp only [if_neg e];exact W.ds.2.2.1 k (by omega)
 ·by_cases e:j=i
  ·have e2:k≠i:=fun z=>hjk (e.trans z.symm)
   simp only [if_pos e,if_neg e2];exact (hgr k (by omega)).symm
  ·by_cases e2:k=i
   ·simp only [if_neg e,if_pos e2];exact hgr j (by omega)
   ·simp only [if_neg e,if_neg e2];exact W.ds.2.2.2 j k (by omega) (by omega) hjk
theorem uM.settle {τ:SU} {M M':aF} {C x dx pc pl pd:Addr} {g:Nat->Addr} {cs:List Str} {ps:List Pt} {lds:List T3} {st:WT} (W:uM M C x dx pc pl pd g cs ps lds st M') (D:WD M pc pl pd g):Cv τ M' τ (mup M x (.ins C dx (eQ cs ps lds st))):=by
 refine Po W.ins W.old fun K H ws rm stp r=>?_
 have nx:∀ b,M b=none->b≠x->mup M x (.ins C dx (eQ cs ps lds st)) b=none:=fun b hb hx=>by rw [aG hx];exact hb
 have xc:pc≠x:=fun z=>by have a:=W.ins;rw [<- z,W.col] at a;cases a
 have xl:pl≠x:=fun z=>by have a:=W.ins;rw [<- z,W.lf] at a;cases a
 have xd:pd≠x:=fun z=>by have a:=W.ins;rw [<- z,W.dic] at a;cases a
 have xg:∀ k,k < 4->g k≠x:=fun k hk z=>by have a:=W.ins;rw [<- z,W.rul k hk] at a;cases a
 have rd:aM K H (mup M x (.ins C dx (eQ cs ps lds st))) (zR (qJ fun k=>.lst ((st.2 k).map gH))) (.ref pd):=by
  obtain ⟨ws,h1,r⟩:=rm pd _ W.dic
  have r2:bJ K H (mup M x (.ins C dx (eQ cs ps lds st))) (qJ fun k=>.lst ((st.2 k).map gH)) ws:=Er r rfl fun i p p' e1 e2=>by
   match i,e1,e2 with
   | 0,e1,e2=>cases e1;cases e2;exact ⟨rfl,fun x rx=>by rw [rx.ref];exact lP rm (W.rul 0 (by omega)) (nx _ (D.ng 0 (by omega)) (xg 0 (by omega))) stp⟩
   | 1,e1,e2=>cases e1;cases e2;exact ⟨rfl,fun x rx=>by rw [rx.ref];exact lP rm (W.rul 1 (by omega)) (nx _ (D.ng 1 (by omega)) (xg 1 (by omega))) stp⟩
   | 2,e1,e2=>cases e1;cases e2;exact ⟨rfl,fun x rx=>by rw [rx.ref];exact lP rm (W.rul 2 (by omega)) (nx _ (D.ng 2 (by omega)) (xg 2 (by omega))) stp⟩
   | 3,e1,e2=>cases e1;cases e2;exact ⟨rfl,fun x rx=>by rw [rx.ref];exact lP rm (W.rul 3 (by omega)) (nx _ (D.ng 3 (by omega)) (xg 3 (by omega))) stp⟩
   | i + 4,e1,e2=>cases e1
  obtain ⟨h2,h3⟩:=Em r2
  exact ⟨pd,ws.map (·.2),rfl,nx pd D.nd xd,⟨ws,.inl h1,by have:=congrArg (List.map fun k=>[k]) h2;simpa [List.map_map,Function.comp_def] using this,rfl⟩,h3⟩
 refine Er r rfl fun i p p' e1 e2=>?_
 match i,e1,e2 with
 | 0,e1,e2=>cases e1;cases e2;exact ⟨rfl,fun v rv=>rv.stp stp⟩
 | 1,e1,e2=>cases e1;cases e2;exact ⟨rfl,fun v rv=>by rw [rv.ref];exact lP rm W.col (nx _ D.nc xc) stp⟩
 | 2,e1,e2=>cases e1;cases e2;exact ⟨rfl,fun v rv=>rv.stp stp⟩
 | 3,e1,e2=>cases e1;cases e2;exact ⟨rfl,fun v rv=>by rw [rv.ref];exact lP rm W.lf (nx _ D.nl xl) stp⟩
 | 4,e1,e2=>cases e1;cases e2;exact ⟨rfl,fun v rv=>by rw [rv.ref];exact rd⟩
 | i + 5,e1,e2=>cases e1
def zV (C:Addr):bG:=fun us M Q=>∃ (x dx:Addr) (cs:List Str) (tls:List Tl),us=[.ref x,fE cs tls]/\M x=some (.ins C dx [])/\mM cs tls/\Q .non (mup M x (.ins C dx (eQ cs (aN tls) (bO cs tls) (kJ cs tls))))
theorem N3 {C:Addr} (F:cK K "__init__" "Wiring.__init__" gR f fd) (hMk:Mk K C f) (hgl:mg "Wiring"=some (.ref C)) (c_Wiring:L2.fQ K C) (n_classes:bY K C "classes") (n_columns:bY K C "columns") (n_leads:bY K C "leads") (n_leaf_rules:bY K C "leaf_rules") (n_sign_rules:bY K C "sign_rules") (fB:jP P w K d cR) (eZ:mg "SIGNS"=some (.ref d)) (o_SIGNS:∃ o,K.lookup d=some o) (bB:mg "len"=none)
  (Dj:Callee P w K mg base 8 "columns_of" G9 []) (C2:Callee P w K mg base 2 "pass_leads" Ep []) (uU:Callee P w K mg base 1 "is_pass" Dz []) (M_wire:vP P w K mg base 2 C "wire" (Ji C)):rN P w K mg base 9 "Wiring" C (zV C):=by
 refine Fo F hMk hgl j0 (t8 fun _ _ _ _ _ _ _ _=>rfl) (fun us M Q h=>by obtain ⟨_,_,_,_,rfl,_⟩:=h;rfl) (aE (uR c_Wiring n_classes (uv 0) (aQ (uv 1) aP))
 (aE (uR c_Wiring n_columns (uv 0) (aK Dj (aA (uv 1) aB)))
 (aE (uR c_Wiring n_leads (uv 0) (aK C2 (aA (uv 1) aB)))
 (aE (uR c_Wiring n_leaf_rules (uv 0) (cF (own:=true) aB))
 (aE (uR c_Wiring n_sign_rules (uv 0) (NV false))
 (aE (dW (MA fB o_SIGNS (xX eZ)) (aU (k:=1000) 2 j0.nd)
 (aL (MY false FU (cF (own:=true) aB) (dU c_Wiring n_sign_rules (uv 0)) (uv 2))))
 (aE (dW (dS (aQ (uv 1) aP)) (aU (k:=1000) 3 j0.nd)
 (aL (cM (OM (CK (aK uU (aA (uv 3) aB))))
 (aL (fA (Ex M_wire c_Wiring (uv 0) (aA (aQ (uv 3) aP) (aA (aQ (uv 3) aP) (aA (aQ (uv 3) aP) aB))))))
 bQ)))
 (aL (Fi (dW (dS (rR (own:=false) (dU c_Wiring n_columns (uv 0)) (pG (dX dO bB (aA (dU c_Wiring n_classes (uv 0)) aB))) pK)) (aU (k:=1000) 4 j0.nd)
 (aL (fA (Ex M_wire c_Wiring (uv 0) (aA (uv 4) (aA aP (aA (uv 4) aB)))))))))))))))) ?_
 rintro us M Q ⟨x,dx,cs,tls,rfl,hx,hT,q⟩
 have hc6:=hT.cls.len
 have ht10:=hT.len
 refine aI fun V hV=>?_
 simp! only [sQ,fE,aX,hx,mD]
 refine ⟨by decide,?_⟩
 subst hV
 refine aI fun V hV=>?_
 simp! only [sQ,mD]
 refine ⟨cs,tls,rfl,hT.tab,fun pc hpc=>?_⟩
 have e1:x≠pc:=fun z=>by rw [<- z,aD] at hpc;cases hpc
 have hMc:M pc=none:=by rw [aG e1.symm] at hpc;exact hpc
 simp! only [aG e1]
 refine ⟨by decide,?_⟩
 rw [show mD (Str.ofString "columns") (U.ref pc) [(Str.ofString "classes",U.tup (List.map U.str cs))]=[(Str.ofString "classes",aX cs),(Str.ofString "columns",U.ref pc)] from rfl]
 generalize hM2:mup (mup (mup M x (MO.ins C dx [(Str.ofString "classes",U.tup (List.map U.str cs))])) pc (MO.lst (List.map U.str cs++List.map Pt.toU (aN tls)))) x (MO.ins C dx [(Str.ofString "classes",aX cs),(Str.ofString "columns",U.ref pc)])=M2
 have x2:M2 x=some (.ins C dx [(Str.ofString "classes",aX cs),(Str.ofString "columns",U.ref pc)]):=by rw [<- hM2,aD]
 have c2:M2 pc=some (.lst (eD cs (aN tls))):=by rw [<- hM2,aG e1.symm,aD];rfl
 have o2:∀ b mo,b≠x->M b=some mo->M2 b=some mo:=fun b mo hb e=>by
  have hbc:b≠pc:=fun z=>by rw [z,hMc] at e;cases e
  rw [<- hM2,aG hb,aG hbc,aG hb];exact e
 clear hM2
 subst hV
 refine aI fun V hV=>?_
 simp! only [sQ,x2]
 refine ⟨cs,tls,rfl,hT,?_⟩
 simp! only [x2]
 refine ⟨by decide,?_⟩
 rw [show mD (Str.ofString "leads") (U.lst ((bO cs tls).map gF)) [(Str.ofString "classes",aX cs),(Str.ofString "columns",U.ref pc)]=[(Str.ofString "classes",aX cs),(Str.ofString "columns",U.ref pc),(Str.ofString "leads",U.lst ((bO cs tls).map gF))] from rfl]
 generalize hM3:mup M2 x (MO.ins C dx [(Str.ofString "classes",aX cs),(Str.ofString "columns",U.ref pc),(Str.ofString "leads",U.lst ((bO cs tls).map gF))])=M3
 have x3:M3 x=some (.ins C dx [(Str.ofString "classes",aX cs),(Str.ofString "columns",U.ref pc),(Str.ofString "leads",U.lst ((bO cs tls).map gF))]):=by rw [<- hM3,aD]
 have c3:M3 pc=some (.lst (eD cs (aN tls))):=by rw [<- hM3,aG e1.symm];exact c2
 have o3:∀ b mo,b≠x->M b=some mo->M3 b=some mo:=fun b mo hb e=>by rw [<- hM3,aG hb];exact o2 b mo hb e
 clear hM3 x2 c2 o2
 subst hV
 refine aI fun V hV=>?_
 simp! only [sQ]
 refine fun pl hpl=>?_
 have e2:x≠pl:=fun z=>by rw [<- z,x3] at hpl;cases hpl
 have e3:pc≠pl:=fun z=>by rw [<- z,c3] at hpl;cases hpl
 have hMl:M pl=none:=by
  cases h:M pl with
  | none=>rfl
  | some mo=>rw [o3 pl mo e2.symm h] at hpl;cases hpl
 simp! only [aG e2,x3]
 refine ⟨by decide,?_⟩
 rw [show mD (Str.ofString "leaf_rules") (U.ref pl) [(Str.ofString "classes",aX cs),(Str.ofString "columns",U.ref pc),(Str.ofString "leads",U.lst ((bO cs tls).map gF))]=[(Str.ofString "classes",aX cs),(Str.ofString "columns",U.ref pc),(Str.ofString "leads",U.lst ((bO cs tls).map gF)),(Str.ofString "leaf_rules",U.ref pl)] from rfl]
 generalize hM4:mup (mup M3 pl (MO.lst [])) x (MO.ins C dx [(Str.ofString "classes",aX cs),(Str.ofString "columns",U.ref pc),(Str.ofString "leads",U.lst ((bO cs tls).map gF)),(Str.ofString "leaf_rules",U.ref pl)])=M4
 have x4:M4 x=some (.ins C dx [(Str.ofString "classes",aX cs),(Str.ofString "columns",U.ref pc),(Str.ofString "leads",U.lst ((bO cs tls).map gF)),(Str.ofString "leaf_rules",U.ref pl)]):=by rw [<- hM4,aD]
 have c4:M4 pc=some (.lst (eD cs (aN tls))):=by rw [<- hM4,aG e1.symm,aG e3];exact c3
 have l4:M4 pl=some (.lst []):=by rw [<- hM4,aG e2.symm,aD]
 have o4:∀ b mo,b≠x->M b=some mo->M4 b=some mo:=fun b mo hb e=>by
  have hbc:b≠pl:=fun z=>by rw [z,hMl] at e;cases e
  rw [<- hM4,aG hb,aG hbc];exact o3 b mo hb e
 clear hM4 x3 c3 o3
 subst hV
 refine aI fun V hV=>?_
 simp! only [sQ,LU,RE]
 refine fun pd hpd=>?_
 have e4:x≠pd:=fun z=>by rw [<- z,x4] at hpd;cases hpd
 have e5:pc≠pd:=fun z=>by rw [<- z,c4] at hpd;cases hpd
 have e6:pl≠pd:=fun z=>by rw [<- z,l4] at hpd;cases hpd
 have hMd:M pd=none:=by
  cases h:M pd with
  | none=>rfl
  | some mo=>rw [o4 pd mo e4.symm h] at hpd;cases hpd
 simp! only [aG e4,x4]
 refine ⟨by decide,?_⟩
 rw [show mD (Str.ofString "sign_rules") (U.ref pd) [(Str.ofString "classes",aX cs),(Str.ofString "columns",U.ref pc),(Str.ofString "leads",U.lst ((bO cs tls).map gF)),(Str.ofString "leaf_rules",U.ref pl)]=wD cs (bO cs tls) pc pl pd from rfl]
 generalize hM5:mup (mup M4 pd (MO.dK [])) x (MO.ins C dx (wD cs (bO cs tls) pc pl pd))=M5
 have x5:M5 x=some (.ins C dx (wD cs (bO cs tls) pc pl pd)):=by rw [<- hM5,aD]
 have c5:M5 pc=some (.lst (eD cs (aN tls))):=by rw [<- hM5,aG e1.symm,aG e5];exact c4
 have l5:M5 pl=some (.lst []):=by rw [<- hM5,aG e2.symm,aG e6];exact l4
 have d5:M5 pd=some (.dK []):=by rw [<- hM5,aG e4.symm,aD]
 have o5:∀ b mo,b≠x->M b=some mo->M5 b=some mo:=fun b mo hb e=>by
  have hbc:b≠pd:=fun z=>by rw [z,hMd] at e;cases e
  rw [<- hM5,aG hb,aG hbc];exact o4 b mo hb e
 clear hM5 x4 c4 l4 o4
 obtain ⟨k1,k2,k3,k4,k5⟩:=Of (cs:=cs) (lds:=bO cs tls) (pc:=pc) (pl:=pl) (pd:=pd)
 subst hV
 refine aI fun V hV=>?_
 refine eA (S:=⟨none,cR.map fun p=>U.str p.1⟩) (M1:=M5) (fun R r=>by simp! only [Fd];exact r)
  (fun i τ' M'=>∃ (e2:Option U) (g:Nat->Addr),τ'=[some (.ref x),some (fE cs tls),e2,none,none]/\C5 M C x dx pc pl pd g cs (aN tls) (bO cs tls) i M')
  ⟨none,fun _=>0,rfl,⟨x5,c5,l5,d5,(fun k hk=>absurd hk (by omega)),o5,⟨(fun k hk=>absurd hk (by omega)),(fun k hk=>absurd hk (by omega)),(fun k hk=>absurd hk (by omega)),(fun j k hj=>absurd hj (by omega))⟩⟩⟩ (fun i τ' M' _=>fun a e=>by cases e) ?_ ?_
 ·rintro i v τ' M' hi ⟨e2',g,rfl,W⟩
  have hi4:i < 4:=(List.getElem?_eq_some_iff.mp hi).1
  obtain ⟨z,hz⟩:∃ z,v=U.str z:=by
   rw [List.getElem?_map] at hi
   cases h:cR[i]? with
   | none=>rw [h] at hi;cases hi
   | some p=>rw [h] at hi;cases hi;exact ⟨_,rfl⟩
  subst hz
  simp! only [hName,L7,g6]
  refine fun r hr=>?_
  have er:x≠r:=fun z=>by rw [<- z,W.ins] at hr;cases hr
  have erd:pd≠r:=fun z=>by rw [<- z,W.dic] at hr;cases hr
  have f3:dF C (Str.ofString "sign_rules") (.ref x) (mup M' r (.lst []))=some (.ref pd):=(cD (by rw [aG er];exact W.ins)).trans k3
  simp! only [f3,aG erd,W.dic,uO]
  refine ⟨by rw [List.length_take];exact big (by omega),?_⟩
  have hput:sO ((qJ fun k=>U.ref (g k)).take i) (.inr z) (U.ref r)=(qJ fun k=>U.ref (if k=i then r else g k)).take (i + 1):=by
   match i,hi,hi4 with
   | 0,hi,_=>cases hi;rfl
   | 1,hi,_=>cases hi;rfl
   | 2,hi,_=>cases hi;rfl
   | 3,hi,_=>cases hi;rfl
  rw [hput]
  exact ⟨_,_,rfl,W.next hMd hr hi4⟩
 ·rintro τ' M' ⟨e2',g,rfl,W⟩
  have W':C5 M C x dx pc pl pd g cs (aN tls) (bO cs tls) 4 M':=W
  have hD:WD M pc pl pd g:=⟨e3,W'.ds.1,W'.ds.2.1,fun j k hj hk=>W'.ds.2.2.2 j k hj hk,hMc,hMl,hMd,W'.ds.2.2.1⟩
  have hW:uM M C x dx pc pl pd g cs (aN tls) (bO cs tls) ([],fun _=>[]) M':=⟨W'.ins,W'.col,W'.lf,W'.dic,W'.rul,W'.old⟩
  clear W W' x5 c5 l5 d5 o5
  have hfine:=zG hT
  have hcnt:=AZ hT
  show V _ _
  subst hV
  refine aI fun V hV=>?_
  refine eA (S:=⟨none,tls.map Tl.toU⟩) (M1:=M') (fun R r=>by simp! only [fE];exact r)
   (fun i τ' M'=>∃ (e3:Option U),τ'=[some (.ref x),some (fE cs tls),e2',e3,none]/\uM M C x dx pc pl pd g cs (aN tls) (bO cs tls) ((tls.take i).foldl (m6 cs (aN tls)) ([],fun _=>[])) M'/\qR ((tls.take i).foldl (m6 cs (aN tls)) ([],fun _=>[])) i)
   ⟨none,rfl,hW,⟨Nat.le_refl _,fun _=>Nat.le_refl _⟩⟩ (fun i τ' M' _=>fun a e=>by cases e) ?_ ?_
  ·rintro i v τ' M' hi ⟨e3',rfl,W,hn⟩
   rw [List.getElem?_map] at hi
   cases ht:tls[i]? with
   | none=>rw [ht] at hi;cases hi
   | some t =>
    rw [ht] at hi;cases hi
    have hX:=hT.all t (List.mem_of_getElem? ht)
    have hil:i < tls.length:=(List.getElem?_eq_some_iff.mp ht).1
    rw [List.take_add_one,ht,Option.toList_some,List.foldl_append,List.foldl_cons,List.foldl_nil]
    generalize (tls.take i).foldl (m6 cs (aN tls)) ([],fun _=>[])=st at *
    simp! only [hName]
    refine cB fun A B hA hB=>?_
    simp! only [true_and]
    refine ⟨t,rfl,?_⟩
    cases hh:t.k.pt.isHole with
    | true =>
     simp! only [true_and]
     subst hB
     simp only [cA]
     have e:m6 cs (aN tls) st t=st:=by unfold m6;rw [if_pos hh]
     rw [e]
     exact ⟨_,rfl,W,by have:=hn.1;omega,fun k=>by have:=hn.2 k;omega⟩
    | false =>
     simp! only [true_and]
     subst hA
     have e:m6 cs (aN tls) st t=addW cs (aN tls) st (.c t.k.cls) t.k.cost.toNat t.k.pt:=by unfold m6;rw [if_neg (by rw [hh];exact Bool.false_ne_true)]
     rw [e]
     have hcost:U.int t.k.cost=U.int ((t.k.cost.toNat:Nat):Int):=by rw [Int.toNat_of_nonneg hX.cost.1]
     simp! only [fM,BM,W.ins,Tl.toU,hcost]
     refine ⟨k4,x,dx,pc,pl,pd,g,cs,aN tls,_,st.1,st.2,.c t.k.cls,t.k.cost.toNat,t.k.pt,rfl,W.ins,k1,k2,k3,k4,W.col,W.lf,W.dic,W.rul,hT.cls.ok,hfine,by have:=hn.1;omega,fun k=>by have:=hn.2 k;omega,⟨hX.cls,hT.cls.ok _ hX.cls⟩,fun a ha=>u5 hT (List.mem_of_getElem? ht) (tH ha a (sU a)),fun hs=>?_,fun k hs=>?_⟩
     ·have e:addW cs (aN tls) st (.c t.k.cls) t.k.cost.toNat t.k.pt=(st.1++[BW cs (aN tls) t.k.cost.toNat (.c t.k.cls) t.k.pt],st.2):=by unfold addW;rw [hs]
      have hc:=rG (cs:=cs) (ps:=aN tls) (c:=.c t.k.cls) (pr:=t.k.cost.toNat) (p:=t.k.pt) hn
      exact ⟨_,rfl,by rw [e];exact W.leaf hD _,hc⟩
     ·have e:addW cs (aN tls) st (.c t.k.cls) t.k.cost.toNat t.k.pt=(st.1,fun j=>if j=k then st.2 j++[BQ cs (aN tls) t.k.cost.toNat (.c t.k.cls) t.k.pt] else st.2 j):=by unfold addW;rw [hs]
      have hc:=rG (cs:=cs) (ps:=aN tls) (c:=.c t.k.cls) (pr:=t.k.cost.toNat) (p:=t.k.pt) hn
      obtain ⟨_,_,_,_,hk4⟩:=zT hs (fun _=>U.non)
      exact ⟨_,rfl,by rw [e];exact W.sign hD _ hk4,hc⟩
  ·rintro τ' M' ⟨e3',rfl,W,hn⟩
   rw [show (Src.mk none (tls.map Tl.toU)).xs.length=tls.length from List.length_map _,List.take_length] at W hn
   generalize hst0:tls.foldl (m6 cs (aN tls)) ([],fun _=>[])=st0 at *
   show V _ _
   subst hV
   show Dg _ _ _ _
   unfold Dg
   have f1:dF C (Str.ofString "columns") (.ref x) M'=some (.ref pc):=(cD W.ins).trans k1
   have f5:dF C (Str.ofString "classes") (.ref x) M'=some (aX cs):=(cD W.ins).trans k5
   have hcut:gE (eD cs (aN tls)) (some (cs.length:Int)) none=(aN tls).map Pt.toU:=by
    rw [Qt _ (by simp [eD])]
    unfold eD
    rw [List.drop_append_of_le_length (by simp),List.drop_of_length_le (by simp),List.nil_append]
   refine eA (S:=⟨none,(aN tls).map Pt.toU⟩) (M1:=M') (fun R r=>by
     simp! only [g6,f1,f5,aX,bT W.col,List.length_map,hcut]
     exact r)
    (fun i τ' M'=>∃ (e4:Option U),τ'=[some (.ref x),some (fE cs tls),e2',e3',e4]/\uM M C x dx pc pl pd g cs (aN tls) (bO cs tls) (((aN tls).take i).foldl (nE cs (aN tls)) st0) M'/\qR (((aN tls).take i).foldl (nE cs (aN tls)) st0) (10 + i))
    ⟨none,rfl,W,(by have:=hn.1;show st0.1.length<=10 + 0;omega),fun k=>by have:=hn.2 k;show (st0.2 k).length<=10 + 0;omega⟩ (fun i τ' M' _=>fun a e=>by cases e) ?_ ?_
   ·rintro i v τ' M' hi ⟨e4',rfl,W,hn⟩
    rw [List.getElem?_map] at hi
    cases ht:(aN tls)[i]? with
    | none=>rw [ht] at hi;cases hi
    | some p =>
     rw [ht] at hi;cases hi
     have hmem:=List.mem_of_getElem? ht
     have hil:i < (aN tls).length:=(List.getElem?_eq_some_iff.mp ht).1
     obtain ⟨t,htm,htl,_⟩:=yV hmem
     have hpf:=hfine p hmem
     rw [List.take_add_one,ht,Option.toList_some,List.foldl_append,List.foldl_cons,List.foldl_nil]
     generalize ((aN tls).take i).foldl (nE cs (aN tls)) st0=st at *
     have hc:=rG (cs:=cs) (ps:=aN tls) (c:=.p p) (pr:=0) (p:=p) hn
     simp! only [hName,fM,BM,W.ins]
     refine ⟨k4,x,dx,pc,pl,pd,g,cs,aN tls,_,st.1,st.2,.p p,0,p,rfl,W.ins,k1,k2,k3,k4,W.col,W.lf,W.dic,W.rul,hT.cls.ok,hfine,by have:=hn.1;omega,fun k=>by have:=hn.2 k;omega,⟨hpf,p,hmem,SeqAt.eqv_refl _ (tI p hpf.1)⟩,fun a ha=>u5 hT htm (oI (lK htl) a ha),fun hs=>?_,fun k hs=>?_⟩
     ·have e:nE cs (aN tls) st p=(st.1++[BW cs (aN tls) 0 (.p p) p],st.2):=by unfold nE addW;rw [hs]
      exact ⟨_,rfl,by rw [e];exact W.leaf hD _,hc⟩
     ·have e:nE cs (aN tls) st p=(st.1,fun j=>if j=k then st.2 j++[BQ cs (aN tls) 0 (.p p) p] else st.2 j):=by unfold nE addW;rw [hs]
      obtain ⟨_,_,_,_,hk4⟩:=zT hs (fun _=>U.non)
      exact ⟨_,rfl,by rw [e];exact W.sign hD _ hk4,hc⟩
   ·rintro τ' M' ⟨e4',rfl,W,hn⟩
    rw [show (Src.mk none ((aN tls).map Pt.toU)).xs.length=(aN tls).length from List.length_map _,List.take_length] at W
    have est:(aN tls).foldl (nE cs (aN tls)) st0=kJ cs tls:=by rw [<- hst0];rfl
    rw [est] at W
    refine ⟨_,_,W.settle hD,?_⟩
    exact aW q
theorem zE (F:cK K "lies_on_leaf" "lies_on_leaf" fZ f fd) (hm:mg "lies_on_leaf"=some (.ref f)):Callee P w K mg base 1 "lies_on_leaf" Cd []:=by
 refine bP F hm yL (t8 fun _ _ _ _ _ _ _ _=>rfl) (aE (cM (bW j9 (aQ (uv 0) aP) fV)
 (aL (bD (KD j9 (aQ (uv 1) aP) fV)))
 bQ)
 (aL (bD (Qp (KD j9 (aQ (uv 1) aP) fV) (Qk (Rv Pd Pd (aQ (uv 0) aP) (aQ (uv 1) aP) (aQ (uv 0) aP))))))) ?_
 rintro us M Q ⟨p,t,rfl,hp,q⟩
 refine ⟨rfl,?_⟩
 rcases hp with rfl | ⟨l,h,rfl⟩
 ·cases t <;> (simp! only [Pt.toU,Tr.toU,rV,tY,tX,uG,tW,t4,uV,uP,i5,iD,kM,jG,dG,gT,xH,xE,cA,bV,BX,bC,hName,fM,yC,BS,nS] at q ⊢;exact aW q)
 ·cases t with
  | num n =>
   simp! only [Pt.toU,Tr.toU,rV,tY,tX,uG,tW,t4,uV,uP,i5,iD,kM,jG,dG,gT,xH,xE,cA,bV,BX,bC,hName,fM,yC,BS,nS] at q ⊢
   by_cases h1:l<=n
   ·rw [if_pos (decide_eq_true h1)]
    rw [decide_eq_true h1,Bool.true_and] at q
    exact aW q
   ·rw [if_neg (by simpa using h1)]
    rw [decide_eq_false h1,Bool.false_and] at q
    exact aW q
  | _=>simp! only [Pt.toU,Tr.toU,rV,tY,tX,uG,tW,t4,uV,uP,i5,iD,kM,jG,dG,gT,xH,xE,cA,bV,BX,bC,hName,fM,yC,BS,nS] at q ⊢;exact aW q
section
variable (cs:List Str) (ps:List Pt) (lds:List T3) (st:WT)
def cY:Nat:=cs.length + ps.length
def gC:List (Option Nat):=List.replicate (cY cs ps) none
def mQ (l f:List (Option Nat)) (x:T3):List (Option Nat):=match l[x.1]? with
 | some (some v)=>lO f x.2.1 (v + x.2.2)
 | _=>f
def vI (l:List (Option Nat)):List (Option Nat):=lds.foldl (mQ l) l
def lC (t:Tr) (f:List (Option Nat)) (r:L3):List (Option Nat):=if rV r.2.2 t then lO f r.1 r.2.1 else f
def zJ (t:Tr):List (Option Nat):=vI lds (st.1.foldl (lC t) (gC cs ps))
def dD:List (Option Nat)->Option Nat
 | []=>some 0
 | none :: _=>none
 | some a :: r=>(dD r).map (a + ·)
def oF (parts:List (List (Option Nat))) (ds:List Nat):List (Option Nat):=(parts.zip ds).map fun p=>p.1[p.2]?.getD none
def u1 (f:List (Option Nat)) (p:R3 × Option Nat):List (Option Nat):=match p.2 with
 | some v=>lO f p.1.1 (p.1.2.1 + v)
 | none=>f
def LA (k:Nat) (sums:List (Option Nat)):List (Option Nat):=vI lds (((st.2 k).zip sums).foldl u1 (gC cs ps))
def vW (k:Nat) (parts:List (List (Option Nat))):List (Option Nat):=LA cs ps lds st k ((st.2 k).map fun r=>dD (oF parts r.2.2))
end
theorem Hv (l f:List (Option Nat)) (x:T3):(mQ l f x).length=f.length:=by
 unfold mQ
 split
 ·exact vV _ _ _
 ·rfl
theorem uJ (l:List (Option Nat)):∀ (xs:List T3) (f:List (Option Nat)),(xs.foldl (mQ l) f).length=f.length
 | [],_=>rfl
 | x :: xs,f=>by rw [List.foldl_cons,uJ l xs,Hv]
theorem qL (lds:List T3) (l:List (Option Nat)):(vI lds l).length=l.length:=uJ l lds l
theorem Jq (t:Tr) (f:List (Option Nat)) (r:L3):(lC t f r).length=f.length:=by
 unfold lC
 split
 ·exact vV _ _ _
 ·rfl
theorem pA (t:Tr):∀ (xs:List L3) (f:List (Option Nat)),(xs.foldl (lC t) f).length=f.length
 | [],_=>rfl
 | x :: xs,f=>by rw [List.foldl_cons,pA t xs,Jq]
theorem KR (f:List (Option Nat)) (p:R3 × Option Nat):(u1 f p).length=f.length:=by
 unfold u1
 split
 ·exact vV _ _ _
 ·rfl
theorem qG:∀ (xs:List (R3 × Option Nat)) (f:List (Option Nat)),(xs.foldl u1 f).length=f.length
 | [],_=>rfl
 | x :: xs,f=>by rw [List.foldl_cons,qG xs,KR]
section
variable {cs:List Str} {ps:List Pt} {lds:List T3} {st:WT}
theorem g9:(gC cs ps).length=cY cs ps:=List.length_replicate
theorem A8 (t:Tr):(zJ cs ps lds st t).length=cY cs ps:=by rw [zJ,qL,pA,g9]
theorem uH (k:Nat) (parts:List (List (Option Nat))):(vW cs ps lds st k parts).length=cY cs ps:=by rw [vW,LA,qL,qG,g9]
end
structure yQ (cs:List Str) (ps:List Pt) (lds:List T3) (st:WT):Prop where
 ld:∀ x∈lds,x.1 < cs.length/\x.2.1 < cs.length
 lf:∀ r∈st.1,r.1 < cY cs ps/\(r.2.2=.any\/∃ l h,r.2.2=.fr l h)
 sg:∀ k,∀ r∈st.2 k,r.1 < cY cs ps/\(∀ d∈r.2.2,d < cY cs ps)/\r.2.2.length<=2
 n1:cY cs ps<=10000
 n2:lds.length<=10000
 n3:st.1.length<=10000
 n4:∀ k,(st.2 k).length<=10000
theorem i9 {cs:List Str} {ps:List Pt} {lds:List T3} {st:WT}:(eQ cs ps lds st).lookup (Str.ofString "classes")=some (aX cs)/\(eQ cs ps lds st).lookup (Str.ofString "columns")=some (.lst (eD cs ps))/\(eQ cs ps lds st).lookup (Str.ofString "leads")=some (.lst (lds.map gF))/\(eQ cs ps lds st).lookup (Str.ofString "leaf_rules")=some (.lst (st.1.map nX))/\(eQ cs ps lds st).lookup (Str.ofString "sign_rules")=some (zR (qJ fun k=>.lst ((st.2 k).map gH))):=⟨rfl,rfl,rfl,rfl,rfl⟩
theorem tG (cs:List Str) (ps:List Pt):(eD cs ps).length=cY cs ps:=by simp [eD,cY]
def sM:Nat->Str
 | 0=>Str.ofString "turn"
 | 1=>Str.ofString "sum"
 | 2=>Str.ofString "less"
 | _=>Str.ofString "by"
theorem EV {M:aF} (g:Nat->U) {k:Nat} (hk:k < 4):vO false M (zR (qJ g)) (.str (sM k))=some (some (g k)):=by
 match k,hk with
 | 0,_=>rfl
 | 1,_=>rfl
 | 2,_=>rfl
 | 3,_=>rfl
def rB (C:Addr):bG:=fun us M Q=>∃ (x dx p:Addr) (cs:List Str) (ps:List Pt) (lds:List T3) (st:WT) (l:List (Option Nat)),us=[.ref x,.ref p]/\M x=some (.ins C dx (eQ cs ps lds st))/\yQ cs ps lds st/\M p=some (.lst (bH l))/\l.length=cY cs ps/\Q (.lst (bH (vI lds l))) M
theorem Ay {C:Addr} (F:cK K "with_passes" "with_passes" gP f fd) (hm:mg "with_passes"=some (.ref f)) (c_Wiring:L2.fQ K C) (n_leads:bY K C "leads") (mE:mg "list"=none) (nM:Callee P w K mg base 1 "lower" pM []):Callee P w K mg base 2 "with_passes" (rB C) []:=by
 refine bP F hm iM (t8 fun _ _ _ _ _ _ _ _=>rfl) (aE (aS 2 iM.nd (sG (B9 (own:=true)) mE (aA (uv 1) aB)))
 (aE (dW (dS (dU c_Wiring n_leads (uv 0))) (jV (n:=3) (bN (aU (k:=1000) 3 iM.nd) (bN (aU (k:=1000) 4 iM.nd) (bN (aU (k:=1000) 5 iM.nd) iQ))))
 (aL (cM (bW oG (aQ (uv 1) (uv 3)) jO)
 (aL (fA (aK nM (aA (uv 2) (aA (uv 4) (aA (cG (own:=false) (aQ (uv 1) (uv 3)) (uv 5)) aB))))))
 bQ)))
 (aL (bD (uv 2))))) ?_
 rintro us M Q ⟨x,dx,p,cs,ps,lds,st,l,rfl,hx,hW,hp,hl,q⟩
 refine ⟨rfl,?_⟩
 obtain ⟨k1,k2,k3,k4,k5⟩:=i9 (cs:=cs) (ps:=ps) (lds:=lds) (st:=st)
 refine aI fun V hV=>?_
 simp! only [bC,hName,bT hp]
 have hn:=hW.n1
 refine fun r hr=>?_
 have exr:x≠r:=fun z=>by rw [<- z,hx] at hr;cases hr
 have epr:p≠r:=fun z=>by rw [<- z,hp] at hr;cases hr
 subst hV
 refine aI fun V hV=>?_
 have f3:dF C (Str.ofString "leads") (.ref x) (mup M r (.lst (bH l)))=some (.lst (lds.map gF)):=(cD (by rw [aG exr];exact hx)).trans k3
 refine eA (S:=⟨none,lds.map gF⟩) (M1:=mup M r (.lst (bH l))) (fun R r=>by simp! only [g6,f3];exact r)
  (fun i τ' M'=>∃ (e3 e4 e5:Option U),τ'=[some (.ref x),some (.ref p),some (.ref r),e3,e4,e5]/\M'=mup M r (.lst (bH ((lds.take i).foldl (mQ l) l))))
  ⟨none,none,none,rfl,rfl⟩ (fun i τ' M' _=>fun a e=>by cases e) ?_ ?_
 ·rintro i v τ' M' hi ⟨e3,e4,e5,rfl,rfl⟩
  rw [List.getElem?_map] at hi
  cases ht:lds[i]? with
  | none=>rw [ht] at hi;cases hi
  | some y =>
   rw [ht] at hi;cases hi
   obtain ⟨h1,h2⟩:=hW.ld y (List.mem_of_getElem? ht)
   have hcn:cs.length<=cY cs ps:=by unfold cY;omega
   rw [List.take_add_one,ht,Option.toList_some,List.foldl_append,List.foldl_cons,List.foldl_nil]
   have hfl:((lds.take i).foldl (mQ l) l).length=l.length:=uJ _ _ _
   generalize (lds.take i).foldl (mQ l) l=g at *
   obtain ⟨v,hv⟩:∃ v,l[y.1]?=some v:=⟨_,List.getElem?_eq_getElem (by omega)⟩
   have hat:=rW hv
   have hvw:view (mup M r (.lst (bH g))) (.ref p)=.lst (bH l):=bT (by rw [aG epr];exact hp)
   simp! only [i5,iD,kM,hName,gF]
   refine cB fun A B hA hB=>?_
   cases v with
   | none =>
    simp! only [hvw,hat,oN]
    subst hB
    simp only [cA]
    have e:mQ l g y=g:=by unfold mQ;rw [hv]
    rw [e]
    exact ⟨_,_,_,rfl,rfl⟩
   | some n =>
    simp! only [hvw,hat,oN]
    subst hA
    simp! only [fM,hvw,hat,oN]
    have e:mQ l g y=lO g y.2.1 (n + y.2.2):=by unfold mQ;rw [hv]
    refine ⟨r,g,y.2.1,n + y.2.2,by push_cast;rfl,aD,by omega,?_⟩
    rw [aV,e]
    exact ⟨_,_,_,rfl,rfl⟩
 ·rintro τ' M' ⟨e3,e4,e5,rfl,rfl⟩
  rw [show (Src.mk none (lds.map gF)).xs.length=lds.length from List.length_map _,List.take_length]
  show V _ _
  subst hV
  simp! only [bV]
  exact ⟨_,M,(Sub.refl M).mup hr,.inr ⟨r,_,rfl,aD,hr,rfl⟩,q⟩
def zU (C:Addr):bG:=fun us M Q=>∃ (x dx:Addr) (cs:List Str) (ps:List Pt) (lds:List T3) (st:WT) (t:Tr),us=[.ref x,t.toU]/\M x=some (.ins C dx (eQ cs ps lds st))/\yQ cs ps lds st/\Q (.lst (bH (zJ cs ps lds st t))) M
theorem AD {C:Addr} (F:cK K "leaf_prices" "leaf_prices" gL f fd) (hm:mg "leaf_prices"=some (.ref f)) (c_Wiring:L2.fQ K C) (n_columns:bY K C "columns") (n_leaf_rules:bY K C "leaf_rules") (bB:mg "len"=none) (nM:Callee P w K mg base 1 "lower" pM []) (An:Callee P w K mg base 1 "lies_on_leaf" Cd []) (jC:Callee P w K mg base 2 "with_passes" (rB C) []):Callee P w K mg base 3 "leaf_prices" (zU C) []:=by
 refine bP F hm iK (t8 fun _ _ _ _ _ _ _ _=>rfl) (aE (aS 2 iK.nd (iS (own:=true) (cF (own:=true) (aA jO aB)) (dX dO bB (aA (dU c_Wiring n_columns (uv 0)) aB))))
 (aE (dW (dS (dU c_Wiring n_leaf_rules (uv 0))) (jV (n:=3) (bN (aU (k:=1000) 3 iK.nd) (bN (aU (k:=1000) 4 iK.nd) (bN (aU (k:=1000) 5 iK.nd) iQ))))
 (aL (cM (CK (aK An (aA (uv 5) (aA (uv 1) aB))))
 (aL (fA (aK nM (aA (uv 2) (aA (uv 3) (aA (uv 4) aB))))))
 bQ)))
 (aL (bD (aK jC (aA (uv 0) (aA (uv 2) aB))))))) ?_
 rintro us M Q ⟨x,dx,cs,ps,lds,st,t,rfl,hx,hW,q⟩
 refine ⟨rfl,?_⟩
 obtain ⟨k1,k2,k3,k4,k5⟩:=i9 (cs:=cs) (ps:=ps) (lds:=lds) (st:=st)
 have hn:=hW.n1
 refine aI fun V hV=>?_
 simp! only [bC,hName,g6]
 refine fun t1 ht1=>?_
 have ext:x≠t1:=fun z=>by rw [<- z,hx] at ht1;cases ht1
 have f2:dF C (Str.ofString "columns") (.ref x) (mup M t1 (.lst [.non]))=some (.lst (eD cs ps)):=(cD (by rw [aG ext];exact hx)).trans k2
 simp! only [f2,tG]
 refine ⟨by omega,by omega,by rw [Int.toNat_natCast];exact small (by omega),?_⟩
 rw [Int.toNat_natCast,u0]
 refine fun r hr=>?_
 have etr:t1≠r:=fun z=>by rw [<- z,aD] at hr;cases hr
 have hMr:M r=none:=by rw [aG etr.symm] at hr;exact hr
 have exr:x≠r:=fun z=>by rw [<- z,hx] at hMr;cases hMr
 have e0:List.replicate (cY cs ps) none=gC cs ps:=rfl
 rw [e0]
 generalize hM1:mup M t1 (.lst [U.non])=M1 at *
 have hsub:Sub M M1:=by rw [<- hM1];exact (Sub.refl M).mup ht1
 have hx1:M1 x=some (.ins C dx (eQ cs ps lds st)):=hsub _ _ hx
 subst hV
 refine aI fun V hV=>?_
 have f4:dF C (Str.ofString "leaf_rules") (.ref x) (mup M1 r (.lst (bH (gC cs ps))))=some (.lst (st.1.map nX)):=(cD (by rw [aG exr];exact hx1)).trans k4
 refine eA (S:=⟨none,st.1.map nX⟩) (M1:=mup M1 r (.lst (bH (gC cs ps)))) (fun R r=>by simp! only [g6,f4];exact r)
  (fun i τ' M'=>∃ (e3 e4 e5:Option U),τ'=[some (.ref x),some t.toU,some (.ref r),e3,e4,e5]/\M'=mup M1 r (.lst (bH ((st.1.take i).foldl (lC t) (gC cs ps)))))
  ⟨none,none,none,rfl,rfl⟩ (fun i τ' M' _=>fun a e=>by cases e) ?_ ?_
 ·rintro i v τ' M' hi ⟨e3,e4,e5,rfl,rfl⟩
  rw [List.getElem?_map] at hi
  cases ht:st.1[i]? with
  | none=>rw [ht] at hi;cases hi
  | some y =>
   rw [ht] at hi;cases hi
   obtain ⟨h1,h2⟩:=hW.lf y (List.mem_of_getElem? ht)
   rw [List.take_add_one,ht,Option.toList_some,List.foldl_append,List.foldl_cons,List.foldl_nil]
   have hfl:((st.1.take i).foldl (lC t) (gC cs ps)).length=cY cs ps:=by rw [pA,g9]
   generalize (st.1.take i).foldl (lC t) (gC cs ps)=g at *
   simp! only [i5,iD,kM,hName,nX]
   refine cB fun A B hA hB=>?_
   simp! only [true_and]
   refine ⟨y.2.2,t,rfl,h2,?_⟩
   cases hlf:rV y.2.2 t with
   | false =>
    simp! only [true_and]
    subst hB
    simp only [cA]
    have e:lC t g y=g:=by unfold lC;rw [hlf];rfl
    rw [e]
    exact ⟨_,_,_,rfl,rfl⟩
   | true =>
    simp! only [true_and]
    subst hA
    simp! only [fM]
    have e:lC t g y=lO g y.1 y.2.1:=by unfold lC;rw [hlf];rfl
    refine ⟨r,g,y.1,y.2.1,rfl,aD,by omega,?_⟩
    rw [aV,e]
    exact ⟨_,_,_,rfl,rfl⟩
 ·rintro τ' M' ⟨e3,e4,e5,rfl,rfl⟩
  rw [show (Src.mk none (st.1.map nX)).xs.length=st.1.length from List.length_map _,List.take_length]
  show V _ _
  subst hV
  simp! only [bV]
  refine ⟨x,dx,r,cs,ps,lds,st,st.1.foldl (lC t) (gC cs ps),rfl,by rw [aG exr];exact hx1,hW,aD,by rw [pA,g9],?_⟩
  exact ⟨_,M,hsub.mup hMr,.inl rfl,q⟩
theorem xY {α β:Type} {l:List α} {m:List β} {i:Nat} {x:α × β} (h:(l.zip m)[i]?=some x):l[i]?=some x.1/\m[i]?=some x.2:=List.getElem?_zip_eq_some.mp h
theorem sJ {α β:Type} (f:α->U) (g:β->U) (l:List α) (m:List β):cX (l.map f) (m.map g)=(l.zip m).map fun p=>U.tup [f p.1,g p.2]:=by
 induction l generalizing m with
 | nil=>rfl
 | cons a l ih =>
  cases m with
  | nil=>rfl
  | cons b m=>simp only [List.map_cons,cX,List.zip_cons_cons,ih m]
def CD (C:Addr):bG:=fun us M Q=>∃ (x dx:Addr) (cs:List Str) (ps:List Pt) (lds:List T3) (st:WT) (k:Nat) (sums:List (Option Nat)),us=[.ref x,.str (sM k),.lst (bH sums)]/\k < 4/\M x=some (.ins C dx (eQ cs ps lds st))/\yQ cs ps lds st/\sums.length<=10000/\Q (.lst (bH (LA cs ps lds st k sums))) M
theorem wA {C:Addr} (F:cK K "prices_of_sums" "prices_of_sums" eU f fd) (hm:mg "prices_of_sums"=some (.ref f)) (c_Wiring:L2.fQ K C) (n_columns:bY K C "columns") (n_sign_rules:bY K C "sign_rules") (bB:mg "len"=none) (oZ:mg "zip"=none) (nM:Callee P w K mg base 1 "lower" pM []) (jC:Callee P w K mg base 2 "with_passes" (rB C) []):Callee P w K mg base 3 "prices_of_sums" (CD C) []:=by
 refine bP F hm iA (q9 fun _ _ _ _ _ _ _ _ _=>rfl) (aE (aS 3 iA.nd (iS (own:=true) (cF (own:=true) (aA jO aB)) (dX dO bB (aA (dU c_Wiring n_columns (uv 0)) aB))))
 (aE (dW (Dk oZ (aA (Ae false FU (dU c_Wiring n_sign_rules (uv 0)) (uv 1)) (aA (uv 2) aB))) (jV (n:=2) (bN (aU (k:=1000) 4 iA.nd) (bN (aU (k:=1000) 5 iA.nd) iQ)))
 (aL (cM (bW oG (uv 5) jO)
 (aL (fA (aK nM (aA (uv 3) (aA (aQ (uv 4) aP) (aA (cG (own:=false) (aQ (uv 4) aP) (uv 5)) aB))))))
 bQ)))
 (aL (bD (aK jC (aA (uv 0) (aA (uv 3) aB))))))) ?_
 rintro us M Q ⟨x,dx,cs,ps,lds,st,k,sums,rfl,hk,hx,hW,hsl,q⟩
 refine ⟨rfl,?_⟩
 obtain ⟨k1,k2,k3,k4,k5⟩:=i9 (cs:=cs) (ps:=ps) (lds:=lds) (st:=st)
 have hn:=hW.n1
 refine aI fun V hV=>?_
 simp! only [bC,hName,g6]
 refine fun t1 ht1=>?_
 have ext:x≠t1:=fun z=>by rw [<- z,hx] at ht1;cases ht1
 have f2:dF C (Str.ofString "columns") (.ref x) (mup M t1 (.lst [.non]))=some (.lst (eD cs ps)):=(cD (by rw [aG ext];exact hx)).trans k2
 simp! only [f2,tG]
 refine ⟨by omega,by omega,by rw [Int.toNat_natCast];exact small (by omega),?_⟩
 rw [Int.toNat_natCast,u0]
 refine fun r hr=>?_
 have etr:t1≠r:=fun z=>by rw [<- z,aD] at hr;cases hr
 have hMr:M r=none:=by rw [aG etr.symm] at hr;exact hr
 have exr:x≠r:=fun z=>by rw [<- z,hx] at hMr;cases hMr
 have e0:List.replicate (cY cs ps) none=gC cs ps:=rfl
 rw [e0]
 generalize hM1:mup M t1 (.lst [U.non])=M1 at *
 have hsub:Sub M M1:=by rw [<- hM1];exact (Sub.refl M).mup ht1
 have hx1:M1 x=some (.ins C dx (eQ cs ps lds st)):=hsub _ _ hx
 subst hV
 refine aI fun V hV=>?_
 have f5:dF C (Str.ofString "sign_rules") (.ref x) (mup M1 r (.lst (bH (gC cs ps))))=some (zR (qJ fun k=>.lst ((st.2 k).map gH))):=(cD (by rw [aG exr];exact hx1)).trans k5
 have hzip:cX ((st.2 k).map gH) (bH sums)=((st.2 k).zip sums).map fun p=>U.tup [gH p.1,oN p.2]:=sJ _ _ _ _
 refine eA (S:=⟨none,((st.2 k).zip sums).map fun p=>U.tup [gH p.1,oN p.2]⟩) (M1:=mup M1 r (.lst (bH (gC cs ps)))) (fun R r=>by simp! only [yJ,g6,f5,vJ,EV _ hk,hzip];exact r)
  (fun i τ' M'=>∃ (e3 e4:Option U),τ'=[some (.ref x),some (.str (sM k)),some (.lst (bH sums)),some (.ref r),e3,e4]/\M'=mup M1 r (.lst (bH ((((st.2 k).zip sums).take i).foldl u1 (gC cs ps)))))
  ⟨none,none,rfl,rfl⟩ (fun i τ' M' _=>fun a e=>by cases e) ?_ ?_
 ·rintro i v τ' M' hi ⟨e3,e4,rfl,rfl⟩
  rw [List.getElem?_map] at hi
  cases ht:((st.2 k).zip sums)[i]? with
  | none=>rw [ht] at hi;cases hi
  | some y =>
   rw [ht] at hi;cases hi
   obtain ⟨h1,_⟩:=hW.sg k y.1 (List.mem_of_getElem? (xY ht).1)
   rw [List.take_add_one,ht,Option.toList_some,List.foldl_append,List.foldl_cons,List.foldl_nil]
   have hfl:((((st.2 k).zip sums).take i).foldl u1 (gC cs ps)).length=cY cs ps:=by rw [qG,g9]
   generalize (((st.2 k).zip sums).take i).foldl u1 (gC cs ps)=g at *
   obtain ⟨y1,y2⟩:=y
   have h1:y1.1 < cY cs ps:=h1
   simp! only [i5,iD,kM,hName]
   refine cB fun A B hA hB=>?_
   cases y2 with
   | none =>
    simp! only [oN]
    subst hB
    simp only [cA]
    exact ⟨_,_,rfl,rfl⟩
   | some n =>
    simp! only [oN]
    subst hA
    simp! only [fM,gH,oN]
    refine ⟨r,g,y1.1,y1.2.1 + n,by push_cast;rfl,aD,by omega,?_⟩
    rw [aV]
    exact ⟨_,_,rfl,rfl⟩
 ·rintro τ' M' ⟨e3,e4,rfl,rfl⟩
  rw [show (Src.mk none (((st.2 k).zip sums).map fun p=>U.tup [gH p.1,oN p.2])).xs.length=((st.2 k).zip sums).length from List.length_map _,List.take_length]
  show V _ _
  subst hV
  simp! only [bV]
  refine ⟨x,dx,r,cs,ps,lds,st,((st.2 k).zip sums).foldl u1 (gC cs ps),rfl,by rw [aG exr];exact hx1,hW,aD,by rw [qG,g9],?_⟩
  exact ⟨_,M,hsub.mup hMr,.inl rfl,q⟩
theorem qO:∀ {l:List (Option Nat)},(bH l).any (fun u=>oW u U.non)=true->dD l=none
 | [],h=>by cases h
 | none :: l,_=>rfl
 | some a :: l,h=>by
  have h':(bH l).any (fun u=>oW u U.non)=true:=by simpa [bH,oN,oW] using h
  simp only [dD,qO h',Option.map_none]
theorem oJ:∀ {l:List (Option Nat)},(bH l).any (fun u=>oW u U.non)=false->∃ ns:List Int,∃ s:Nat,intsOf (bH l)=some ns/\ns.sum=(s:Int)/\dD l=some s
 | [],_=>⟨[],0,rfl,rfl,rfl⟩
 | none :: l,h=>by simp [bH,oN,oW] at h
 | some a :: l,h=>by
  have h':(bH l).any (fun u=>oW u U.non)=false:=by simpa [bH,oN,oW] using h
  obtain ⟨ns,s,e1,e2,e3⟩:=oJ h'
  refine ⟨(a:Int) :: ns,a + s,?_,?_,?_⟩
  ·have e:bH (some a :: l)=U.int (a:Int) :: bH l:=rfl
   rw [e];simp only [intsOf,e1,Option.map_some]
  ·rw [List.sum_cons,e2];push_cast;rfl
  ·simp only [dD,e3,Option.map_some]
theorem Ak (l:List (Option Nat)):(bH l).all jA=true:=by
 simp only [bH,List.all_map,List.all_eq_true]
 intro x _
 cases x <;> rfl
def qW (parts:List (List (Option Nat))):U:=.lst (parts.map fun l=>.lst (bH l))
def As (C:Addr):bG:=fun us M Q=>∃ (x dx:Addr) (cs:List Str) (ps:List Pt) (lds:List T3) (st:WT) (k:Nat) (parts:List (List (Option Nat))),us=[.ref x,.str (sM k),qW parts]/\k < 4/\M x=some (.ins C dx (eQ cs ps lds st))/\yQ cs ps lds st/\parts.length<=2/\(∀ l∈parts,l.length=cY cs ps)/\Q (.lst (bH (vW cs ps lds st k parts))) M
theorem zN {C:Addr} (F:cK K "sign_prices" "sign_prices" gM f fd) (hm:mg "sign_prices"=some (.ref f)) (c_Wiring:L2.fQ K C) (n_sign_rules:bY K C "sign_rules") (pE:mg "sum"=none) (oZ:mg "zip"=none) (wZ:Callee P w K mg base 3 "prices_of_sums" (CD C) []):Callee P w K mg base 4 "sign_prices" (As C) []:=by
 refine bP F hm gB (q9 fun _ _ _ _ _ _ _ _ _=>rfl) (aE (aS 3 gB.nd (cF (own:=true) aB))
 (aE (Fi (dW (dS (Ae false FU (dU c_Wiring n_sign_rules (uv 0)) (uv 1))) (jV (n:=3) (bN (aU (k:=1000) 4 gB.nd) (bN (aU (k:=1000) 5 gB.nd) (bN (aU (k:=1000) 6 gB.nd) iQ))))
 (aE (nB 7 gB.nd false ["prices","draw"] 2 [] (Dk oZ (aA (uv 2) (aA (uv 6) aB))) (jV (n:=2) (bN (aU (k:=2) 0 (by dsimp only [bR];decide +kernel)) (bN (aU (k:=2) 1 (by dsimp only [bR];decide +kernel)) iQ))) jJ (aQ (uv 0) (uv 1)))
 (aL (fA (jT (uv 3) (aA (BN (bW Lx jO (uv 7)) jO (dX DB pE (aA (uv 7) aB))) aB)))))))
 (aL (bD (aK wZ (aA (uv 0) (aA (uv 1) (aA (uv 3) aB)))))))) ?_
 rintro us M Q ⟨x,dx,cs,ps,lds,st,k,parts,rfl,hk,hx,hW,hpl,hpn,q⟩
 refine ⟨rfl,?_⟩
 obtain ⟨k1,k2,k3,k4,k5⟩:=i9 (cs:=cs) (ps:=ps) (lds:=lds) (st:=st)
 refine aI fun V hV=>?_
 simp! only [bC,hName]
 refine fun r hr=>?_
 have exr:x≠r:=fun z=>by rw [<- z,hx] at hr;cases hr
 subst hV
 refine aI fun V hV=>?_
 show Dg _ _ _ _
 unfold Dg
 have f5:dF C (Str.ofString "sign_rules") (.ref x) (mup M r (.lst []))=some (zR (qJ fun k=>.lst ((st.2 k).map gH))):=(cD (by rw [aG exr];exact hx)).trans k5
 let sumsF:List R3->List (Option Nat):=fun rs=>rs.map fun r=>dD (oF parts r.2.2)
 refine eA (S:=⟨none,(st.2 k).map gH⟩) (M1:=mup M r (.lst [])) (fun R r=>by simp! only [g6,f5,vJ,EV _ hk];exact r)
  (fun i τ' M'=>∃ (e4 e5 e6 e7:Option U),τ'=[some (.ref x),some (.str (sM k)),some (qW parts),some (.ref r),e4,e5,e6,e7]/\M'=mup M r (.lst (bH (sumsF ((st.2 k).take i))))/\i<=(st.2 k).length)
  ⟨none,none,none,none,rfl,rfl,Nat.zero_le _⟩ (fun i τ' M' _=>fun a e=>by cases e) ?_ ?_
 ·rintro i v τ' M' hi ⟨e4,e5,e6,e7,rfl,rfl,_⟩
  rw [List.getElem?_map] at hi
  cases ht:(st.2 k)[i]? with
  | none=>rw [ht] at hi;cases hi
  | some y =>
   rw [ht] at hi;cases hi
   have hil:i < (st.2 k).length:=(List.getElem?_eq_some_iff.mp ht).1
   obtain ⟨_,h2,h3⟩:=hW.sg k y (List.mem_of_getElem? ht)
   have htk:sumsF ((st.2 k).take (i + 1))=sumsF ((st.2 k).take i)++[dD (oF parts y.2.2)]:=by
    show List.map _ _=_
    rw [List.take_add_one,ht,Option.toList_some,List.map_append];rfl
   rw [htk]
   have hlen:(sumsF ((st.2 k).take i)).length<=10000:=by
    show (List.map _ _).length<=_
    rw [List.length_map,List.length_take];have:=hW.n4 k;omega
   generalize sumsF ((st.2 k).take i)=sm at *
   simp! only [i5,iD,kM,hName,gH]
   refine aI fun V2 hV2=>?_
   simp only [bC,hName]
   have hzip:cX (parts.map fun l=>U.lst (bH l)) (y.2.2.map fun (n:Nat)=>U.int (n:Int))=(parts.zip y.2.2).map fun p=>U.tup [U.lst (bH p.1),U.int (p.2:Int)]:=sJ _ _ _ _
   refine gS (S:=⟨none,(parts.zip y.2.2).map fun p=>U.tup [U.lst (bH p.1),U.int (p.2:Int)]⟩) (M1:=mup M r (.lst (bH sm))) (bH (oF parts y.2.2)) (fun R r=>by simp! only [yJ,qW,hzip];exact r) (by simp [jD,oF]) (by rw [List.length_map,List.length_zip];exact small (by omega)) (by intro a e;cases e) (fun j xx yy hxx hyy M' _ R r'=>?_) ?_
   ·rw [List.getElem?_map] at hxx
    rw [bH,oF,List.map_map,List.getElem?_map] at hyy
    cases hz:(parts.zip y.2.2)[j]? with
    | none=>rw [hz] at hxx;cases hxx
    | some pr =>
     rw [hz] at hxx hyy;cases hxx;cases hyy
     obtain ⟨hz1,hz2⟩:=xY hz
     have hlp:=hpn _ (List.mem_of_getElem? hz1)
     have hd:=h2 _ (List.mem_of_getElem? hz2)
     obtain ⟨v,hv⟩:∃ v,pr.1[pr.2]?=some v:=⟨_,List.getElem?_eq_getElem (by omega)⟩
     have hat:=rW hv
     simp only [Function.comp,hv,Option.getD_some] at r'
     simp! only [i5,iD,kM,hName,hat]
     exact r'
   ·simp only [iH]
    subst hV2
    simp! only [fM,jG]
    have hfl:=Ak (oF parts y.2.2)
    cases hany:(bH (oF parts y.2.2)).any (fun u=>oW u U.non) with
    | true =>
     have hs:=qO hany
     simp! only [hfl,jA,hany]
     exact ⟨⟨_,bT aD⟩,by rw [jD];exact big (by omega),_,_,_,_,rfl,by rw [hs,bH,bH,List.map_append];rfl,by omega⟩
    | false =>
     obtain ⟨ns,s,g1,g2,g3⟩:=oJ hany
     simp! only [hfl,jA,hany,yM,g1]
     exact ⟨⟨_,bT aD⟩,by rw [jD];exact big (by omega),_,_,_,_,rfl,by rw [g2,g3,bH,bH,List.map_append];rfl,by omega⟩
 ·rintro τ' M' ⟨e4,e5,e6,e7,rfl,rfl,_⟩
  rw [show (Src.mk none ((st.2 k).map gH)).xs.length=(st.2 k).length from List.length_map _,List.take_length]
  refine ⟨_,M,HM (i:=3) (a:=r) (u:=.lst (bH (sumsF (st.2 k)))) ((Sub.refl M).mup hr) (fun K H rm st=>lP rm aD hr st) rfl,?_⟩
  show V _ _
  subst hV
  simp! only [bV]
  exact ⟨x,dx,cs,ps,lds,st,k,sumsF (st.2 k),rfl,hk,hx,hW,by show (List.map _ _).length<=_;rw [List.length_map];exact hW.n4 k,aW q⟩
structure Wg (cs:List Str) (ps:List Pt) (st:WT):Prop where
 lf:∀ r∈st.1,r.1 < cY cs ps/\(r.2.2=.any\/∃ l h,r.2.2=.fr l h)
 sg:∀ k,∀ r∈st.2 k,r.1 < cY cs ps/\(∀ d∈r.2.2,d < cY cs ps)/\r.2.2.length<=2
theorem Wg.add {cs:List Str} {ps:List Pt} {st:WT} {c:Cl} {pr:Nat} {p:Pt} (h:Wg cs ps st) (hc:yU cs ps c) (hp:p.isHole=false) (hd:∀ a∈p.parts,yU cs ps (nU a)):Wg cs ps (addW cs ps st c pr p):=by
 unfold addW
 split
 ·rename_i hs
  refine ⟨fun r hr=>?_,h.sg⟩
  rcases List.mem_append.mp hr with hr | hr
  ·exact h.lf r hr
  ·cases List.mem_singleton.mp hr
   refine ⟨xA hc,?_⟩
   cases p with
   | hole c=>cases hp
   | any=>exact .inl rfl
   | fr l h=>exact .inr ⟨l,h,rfl⟩
   | turn a=>cases hs
   | two o a b=>cases o <;> cases hs
 ·refine ⟨h.lf,fun k r hr=>?_⟩
  dsimp only at hr
  split at hr
  ·rcases List.mem_append.mp hr with hr | hr
   ·exact h.sg k r hr
   ·cases List.mem_singleton.mp hr
    refine ⟨xA hc,fun d hd'=>?_,?_⟩
    ·obtain ⟨a,ha,rfl⟩:=List.mem_map.mp hd'
     exact xA (hd a ha)
    ·show (List.map _ _).length<=2
     rw [List.length_map];exact p9 p
  ·exact h.sg k r hr
theorem CB {cs:List Str} {tls:List Tl} (hT:mM cs tls):∀ (l:List Tl) (st:WT) (n:Nat),(∀ t∈l,t∈tls)->Wg cs (aN tls) st->qR st n->Wg cs (aN tls) (l.foldl (m6 cs (aN tls)) st)/\qR (l.foldl (m6 cs (aN tls)) st) (n + l.length)
 | [],_,_,_,h,c=>⟨h,c⟩
 | t :: l,st,n,hl,h,c=>by
  have hX:=hT.all t (hl t List.mem_cons_self)
  rw [List.foldl_cons,List.length_cons]
  have key:Wg cs (aN tls) (m6 cs (aN tls) st t)/\qR (m6 cs (aN tls) st t) (n + 1):=by
   unfold m6
   cases hh:t.k.pt.isHole with
   | true=>rw [if_pos rfl];exact ⟨h,by have:=c.1;omega,fun k=>by have:=c.2 k;omega⟩
   | false=>exact ⟨h.add ⟨hX.cls,hT.cls.ok _ hX.cls⟩ hh fun a ha=>u5 hT (hl t List.mem_cons_self) (tH ha a (sU a)),rG c⟩
  have:=CB hT l _ (n + 1) (fun x hx=>hl x (List.mem_cons_of_mem _ hx)) key.1 key.2
  rw [show n + (l.length + 1)=n + 1 + l.length by omega];exact this
theorem CM {cs:List Str} {tls:List Tl} (hT:mM cs tls):∀ (l:List Pt) (st:WT) (n:Nat),(∀ p∈l,p∈aN tls)->Wg cs (aN tls) st->qR st n->Wg cs (aN tls) (l.foldl (nE cs (aN tls)) st)/\qR (l.foldl (nE cs (aN tls)) st) (n + l.length)
 | [],_,_,_,h,c=>⟨h,c⟩
 | p :: l,st,n,hl,h,c=>by
  have hm:=hl p List.mem_cons_self
  have hf:=zG hT p hm
  obtain ⟨t,ht,htl,hh⟩:=yV hm
  rw [List.foldl_cons,List.length_cons]
  have key:Wg cs (aN tls) (nE cs (aN tls) st p)/\qR (nE cs (aN tls) st p) (n + 1) :=
   ⟨h.add ⟨hf,p,hm,SeqAt.eqv_refl _ (tI p hf.1)⟩ hh fun a ha=>u5 hT ht (oI (lK htl) a ha),rG c⟩
  have:=CM hT l _ (n + 1) (fun x hx=>hl x (List.mem_cons_of_mem _ hx)) key.1 key.2
  rw [show n + (l.length + 1)=n + 1 + l.length by omega];exact this
theorem RG {cs:List Str} {tls:List Tl} (hT:mM cs tls):yQ cs (aN tls) (bO cs tls) (kJ cs tls):=by
 have h0:Wg cs (aN tls) ([],fun _=>[]):=⟨fun r hr=>(by cases hr),fun k r hr=>(by cases hr)⟩
 obtain ⟨h1,c1⟩:=CB hT tls ([],fun _=>[]) 0 (fun t h=>h) h0 ⟨Nat.le_refl _,fun _=>Nat.le_refl _⟩
 obtain ⟨h2,c2⟩:=CM hT (aN tls) _ _ (fun t h=>h) h1 c1
 have hp:=AZ hT
 have hc:=hT.cls.len
 have ht:=hT.len
 refine ⟨J4,h2.lf,h2.sg,by unfold cY;omega,?_,by have:=c2.1;show (kJ cs tls).1.length<=_;unfold kJ;omega,fun k=>by have:=c2.2 k;show ((kJ cs tls).2 k).length<=_;unfold kJ;omega⟩
 have:=A0 cs tls cs.length
 have h6:cs.length * cs.length<=36:=Nat.le_trans (Nat.mul_le_mul hc hc) (by decide)
 show (bO cs tls).length<=_
 unfold bO;omega
def fT (l:List (Option Nat)):U:=.tup (bH l)
def oO (cs:List Str) (ps:List Pt) (lds:List T3) (st:WT) (labs:List (List (Option Nat))):Wt->List (Option Nat)
 | .num n=>zJ cs ps lds st (.num n)
 | .name s=>zJ cs ps lds st (.name s)
 | .piece k=>(labs[k.toNat]?.getD [])++List.replicate ps.length none
 | _=>[]
def Wt.leafW:Wt->Bool
 | .turn _=>false
 | .two _ _ _=>false
 | _=>true
def Av (C:Addr):bG:=fun us M Q=>∃ (x dx pL:Addr) (cs:List Str) (ps:List Pt) (lds:List T3) (st:WT) (labs:List (List (Option Nat))) (t:Wt),us=[.ref x,t.toU,.ref pL]/\t.leafW=true/\t.good labs.length/\M x=some (.ins C dx (eQ cs ps lds st))/\yQ cs ps lds st/\M pL=some (.lst (labs.map fT))/\(∀ l∈labs,l.length=cs.length)/\Q (.lst (bH (oO cs ps lds st labs t))) M
theorem Lc {C:Addr} (F:cK K "known_prices" "known_prices" fY f fd) (hm:mg "known_prices"=some (.ref f)) (c_Wiring:L2.fQ K C) (n_columns:bY K C "columns") (bB:mg "len"=none) (mE:mg "list"=none) (BI:Callee P w K mg base 3 "leaf_prices" (zU C) []):Callee P w K mg base 4 "known_prices" (Av C) []:=by
 refine bP F hm qD (q9 fun _ _ _ _ _ _ _ _ _=>rfl) (aE (cM (bW u6 (aQ (uv 1) aP) fV)
 (aL (bD (aK BI (aA (uv 0) (aA (uv 1) aB)))))
 bQ)
 (aE (aS 3 qD.nd (aQ (uv 2) (aQ (uv 1) aP)))
 (aL (bD (cG (own:=false) (sG (B9 (own:=false)) mE (aA (uv 3) aB)) (iS (own:=false) (cF (own:=true) (aA jO aB)) (gG (dX dO bB (aA (dU c_Wiring n_columns (uv 0)) aB)) (dX dO bB (aA (uv 3) aB))))))))) ?_
 rintro us M Q ⟨x,dx,pL,cs,ps,lds,st,labs,t,rfl,hlf,hg,hx,hW,hL,hll,q⟩
 refine ⟨rfl,?_⟩
 obtain ⟨k1,k2,k3,k4,k5⟩:=i9 (cs:=cs) (ps:=ps) (lds:=lds) (st:=st)
 have hn:=hW.n1
 have w1:decide (Str.ofString "num"=Str.ofString "piece")=false:=by decide +kernel
 have w2:decide (Str.ofString "name"=Str.ofString "piece")=false:=by decide +kernel
 have w3:decide (Str.ofString "piece"=Str.ofString "piece")=true:=by decide +kernel
 refine aI fun V hV=>?_
 refine cB fun A B hA hB=>?_
 cases t with
 | turn a=>cases hlf
 | two o a b=>cases hlf
 | num n =>
  simp! only [Wt.toU,w1]
  subst hA
  simp! only [bV,Wt.toU]
  exact ⟨x,dx,cs,ps,lds,st,.num n,rfl,hx,hW,aW q⟩
 | name n =>
  simp! only [Wt.toU,w2]
  subst hA
  simp! only [bV,Wt.toU]
  exact ⟨x,dx,cs,ps,lds,st,.name n,rfl,hx,hW,aW q⟩
 | piece k =>
  have hk1:0<=k:=hg.1
  have hk2:k < labs.length:=hg.2
  obtain ⟨lb,hlb⟩:∃ lb,labs[k.toNat]?=some lb:=⟨_,List.getElem?_eq_getElem (by omega)⟩
  have hlen:=hll lb (List.mem_of_getElem? hlb)
  have hat:dP (labs.map fT) k=some (fT lb):=by
   have:=eL (xs:=labs.map fT) (j:=k.toNat) (v:=fT lb) (by rw [List.getElem?_map,hlb];rfl)
   rw [Int.toNat_of_nonneg hk1] at this;exact this
  simp! only [Wt.toU,w3]
  subst hB
  simp only [cA]
  subst hV
  refine aI fun V hV=>?_
  simp! only [bC,hName,Wt.toU,bT hL,hat]
  subst hV
  have f2:dF C (Str.ofString "columns") (.ref x) M=some (.lst (eD cs ps)):=(cD hx).trans k2
  simp! only [bV,fT,g6,jD]
  have hcn:cY cs ps=cs.length + ps.length:=rfl
  refine fun t1 ht1=>?_
  have ext:x≠t1:=fun z=>by rw [<- z,hx] at ht1;cases ht1
  have f2':dF C (Str.ofString "columns") (.ref x) (mup M t1 (.lst [.non]))=some (.lst (eD cs ps)):=(cD (by rw [aG ext];exact hx)).trans k2
  have e1:((cY cs ps:Int) - (lb.length:Int)).toNat=ps.length:=by omega
  simp! only [f2',tG,e1,u0,jD,List.length_replicate]
  refine ⟨by omega,by omega,small (by omega),small (by omega),?_⟩
  have e2:oO cs ps lds st labs (.piece k)=lb++List.replicate ps.length none:=by simp only [oO,hlb,Option.getD_some]
  rw [e2] at q
  refine ⟨_,M,(Sub.refl M).mup ht1,.inl rfl,?_⟩
  rw [bH,bH,<- List.map_append]
  exact q
def Op.ix:Op->Nat
 | .sum=>1
 | .less=>2
 | .by_=>3
theorem Op.ix_word (o:Op):sM o.ix=o.word:=by cases o <;> rfl
theorem Op.ix_lt (o:Op):o.ix < 4:=by cases o <;> decide
def kL (kn:Wt->List (Option Nat)) (sg:Nat->List (List (Option Nat))->List (Option Nat)):Wt->List (Option Nat)
 | .turn a=>sg 0 [kL kn sg a]
 | .two o a b=>sg o.ix [kL kn sg a,kL kn sg b]
 | t=>kn t
def zA (M:aF) (N:Nat) (m:Int) (s s':bG) (kn:Wt->List (Option Nat)) (sg:Nat->List (List (Option Nat))->List (Option Nat)):Prop :=
 (∀ (t:Wt) (M':aF) (Q':UK),Sub M M'->t.leafW=true->t.good m->Q' (.lst (bH (kn t))) M'->s [t.toU] M' Q') /\
 (∀ (k:Nat) (parts:List (List (Option Nat))) (M':aF) (Q':UK),Sub M M'->k < 4->parts.length<=2->(∀ l∈parts,l.length=N)->Q' (.lst (bH (sg k parts))) M'->s' [.str (sM k),qW parts] M' Q') /\
 (∀ t,t.leafW=true->t.good m->(kn t).length=N)/\∀ k parts,(sg k parts).length=N
theorem AG {M:aF} {N:Nat} {m:Int} {s s':bG} {kn:Wt->List (Option Nat)} {sg:Nat->List (List (Option Nat))->List (Option Nat)} (h:zA M N m s s' kn sg):∀ t:Wt,t.good m->(kL kn sg t).length=N
 | .num n,g=>h.2.2.1 (.num n) rfl g
 | .name n,g=>h.2.2.1 (.name n) rfl g
 | .piece n,g=>h.2.2.1 (.piece n) rfl g
 | .turn a,_=>h.2.2.2 _ _
 | .two o a b,_=>h.2.2.2 _ _
theorem zA.sub {M M1:aF} {N:Nat} {m:Int} {s s':bG} {kn:Wt->List (Option Nat)} {sg:Nat->List (List (Option Nat))->List (Option Nat)} (h:zA M N m s s' kn sg) (hs:Sub M M1):zA M1 N m s s' kn sg :=
 ⟨fun t M' Q' h1=>h.1 t M' Q' fun b mo e=>h1 b mo (hs b mo e),fun k p M' Q' h1=>h.2.1 k p M' Q' fun b mo e=>h1 b mo (hs b mo e),h.2.2⟩
def qZ (n:Nat) (fl:Addr) (s:bG) (fs:Addr) (s':bG):bG:=fun us M Q=>∃ (t:Wt) (N:Nat) (m:Int) (kn:Wt->List (Option Nat)) (sg:Nat->List (List (Option Nat))->List (Option Nat)),us=[t.toU,.ref fl,.ref fs]/\t.dep<=n/\t.good m/\zA M N m s s' kn sg/\Q (.lst (bH (kL kn sg t))) M
theorem JO (t:Wt):1<=t.dep:=by cases t <;> simp [Wt.dep]
theorem NO {n:Nat} {fs:Addr} {s s':bG} (F:cK K "reckoned" "reckoned" iZ f fd) (hm:mg "reckoned"=some (.ref f)) (fB:jP P w K d cR) (eZ:mg "SIGNS"=some (.ref d)) (A_of_leaf:eY P w K mg base 5 fl s) (A_of_sign:eY P w K mg base 5 fs s') (dB:Callee P w K mg base 1 "parts_of" i6 []) (rX:Callee P w K mg base (n + 6) "reckoned" (qZ n fl s fs s') []):Callee P w K mg base (n + 7) "reckoned" (qZ (n + 1) fl s fs s') []:=by
 refine bP F hm DU (q9 fun _ _ _ _ _ _ _ _ _=>rfl) (aE (cM (bW (FE fB) (aQ (uv 0) aP) (xX eZ))
 (aL (bD (Ck 1 A_of_leaf (aA (uv 0) aB))))
 bQ)
 (aL (bD (Ck 2 A_of_sign (aA (aQ (uv 0) aP) (aA (nJ false ["part","of_leaf","of_sign"] 1 [1,2] (dS (aK dB (aA (uv 0) aB))) (aU (k:=1) 0 (by dsimp only [bR];decide +kernel)) jJ (aK rX (aA (uv 0) (aA (uv 1) (aA (uv 2) aB))))) aB)))))) ?_
 rintro us M Q ⟨t,N,m,kn,sg,rfl,hd,hg,hR,q⟩
 refine ⟨rfl,?_⟩
 have hc:∀ (z:Str) (pp:List Wt),(cH cR z).isSome=true->t.toU=.tup (.str z :: pp.map Wt.toU)->pp.length<=2->(∀ a∈pp,a.dep<=n/\a.good m) ->
   ∀ R:UK,R (qW (pp.map (kL kn sg))) M->tM false 1 [1,2] (tF (qB i6 [] (n6 (oU 0) uZ))) (hName 0) (fun x M Q=>Q true M) (qB (qZ n fl s fs s') [] (n6 (oU 0) (n6 (oU 1) (n6 (oU 2) uZ)))) [some t.toU,some (U.ref fl),some (U.ref fs)] M R:=by
  intro z pp hz e h2 hp R r
  refine gS (S:=⟨none,pp.map Wt.toU⟩) (M1:=M) ((pp.map (kL kn sg)).map fun l=>U.lst (bH l)) (fun R r=>by
    simp! only [e]
    exact ⟨z,_,true,rfl,hz,by rw [List.length_map];omega,r⟩) (by simp) (by rw [List.length_map];exact small (by omega)) (by intro a e;cases e) (fun i x y hx hy M' hS R r=>?_) r
  rw [List.getElem?_map] at hx
  rw [List.map_map,List.getElem?_map] at hy
  cases ha:pp[i]? with
  | none=>rw [ha] at hx;cases hx
  | some a =>
   rw [ha] at hx hy;cases hx;cases hy
   obtain ⟨a1,a2⟩:=hp a (List.mem_of_getElem? ha)
   simp! only [hName]
   exact ⟨a,N,m,kn,sg,rfl,a1,a2,hR.sub hS,r⟩
 refine aI fun V hV=>?_
 refine cB fun A B hA hB=>?_
 have s1:(cH cR (Str.ofString "num")).isSome=false:=by kernel_rfl
 have s2:(cH cR (Str.ofString "name")).isSome=false:=by kernel_rfl
 have s3:(cH cR (Str.ofString "piece")).isSome=false:=by kernel_rfl
 have leaf:t.leafW=true->(A M):=fun h=>by
  subst hA
  simp! only [bV]
  have e:kL kn sg t=kn t:=by cases t <;> first | rfl | cases h
  rw [e] at q
  exact hR.1 t M _ (Sub.refl M) h hg (aW q)
 cases t with
 | num k =>
  simp! only [Wt.toU,dG,s1]
  exact leaf rfl
 | name k =>
  simp! only [Wt.toU,dG,s2]
  exact leaf rfl
 | piece k =>
  simp! only [Wt.toU,dG,s3]
  exact leaf rfl
 | turn a =>
  have st1:(cH cR (Str.ofString "turn")).isSome=true:=by kernel_rfl
  simp! only [Wt.toU,dG,st1]
  subst hB
  simp only [cA]
  subst hV
  simp only [Wt.dep] at hd
  have hlen:=AG hR a hg
  simp! only [bV,Wt.toU]
  refine hc (Str.ofString "turn") [a] st1 rfl (by simp) (fun b hb=>by cases List.mem_singleton.mp hb;exact ⟨by omega,hg⟩) _ ?_
  exact hR.2.1 0 [kL kn sg a] M _ (Sub.refl M) (by omega) (by simp) (fun l hl=>by cases List.mem_singleton.mp hl;exact hlen) (aW q)
 | two o a b =>
  have st1:(cH cR o.word).isSome=true:=by cases o <;> kernel_rfl
  simp! only [Wt.toU,dG,st1]
  subst hB
  simp only [cA]
  subst hV
  simp only [Wt.dep] at hd
  have hlen:=AG hR a hg.1
  have hlen2:=AG hR b hg.2
  simp! only [bV,Wt.toU]
  refine hc o.word [a,b] st1 rfl (by simp) (fun c hb=>?_) _ ?_
  ·have hb':c=a\/c=b:=by simpa using hb
   rcases hb' with rfl | rfl
   ·exact ⟨by omega,hg.1⟩
   ·exact ⟨by omega,hg.2⟩
  ·rw [<- o.ix_word]
   refine hR.2.1 o.ix [kL kn sg a,kL kn sg b] M _ (Sub.refl M) o.ix_lt (by simp) (fun l hl=>?_) (aW q)
   have hl':l=kL kn sg a\/l=kL kn sg b:=by simpa using hl
   rcases hl' with rfl | rfl
   ·exact hlen
   ·exact hlen2
theorem Dm {fs:Addr} {s s':bG} (F:cK K "reckoned" "reckoned" iZ f fd) (hm:mg "reckoned"=some (.ref f)) (fB:jP P w K d cR) (eZ:mg "SIGNS"=some (.ref d)) (A_of_leaf:eY P w K mg base 5 fl s) (A_of_sign:eY P w K mg base 5 fs s') (dB:Callee P w K mg base 1 "parts_of" i6 []):∀ n,Callee P w K mg base (n + 6) "reckoned" (qZ n fl s fs s') []
 | 0=>by
  have no:∀ us M Q,¬ qZ 0 fl s fs s' us M Q:=fun us M Q h=>by
   obtain ⟨t,_,_,_,_,_,h,_⟩:=h
   have:=JO t
   omega
  refine ⟨f,fd,["shape","of_leaf","of_sign"],[],[],⟨fun vs H Q E h=>?_,fun A outer s H args us vs Q E _ _ _ _ h=>?_⟩,hm,F.kp,F.binds (q9 fun _ _ _ _ _ _ _ _ _=>rfl),.nil,fun H M=>.nil⟩
  ·obtain ⟨us,M,Q',_,_,h,_⟩:=h;exact absurd h (no us M Q')
  ·obtain ⟨us,M,Q',_,_,h,_⟩:=h;exact absurd h (no us M Q')
 | n + 1=>NO F hm fB eZ A_of_leaf A_of_sign dB (Dm F hm fB eZ A_of_leaf A_of_sign dB n)
def QT:Str:=Str.ofString "tree_label"++Str.ofString ".<locals>."++Str.ofString "<lambda>"
section
variable (cs:List Str) (ps:List Pt) (lds:List T3) (st:WT)
def QJ (labs:List (List (Option Nat))) (t:Wt):List (Option Nat):=kL (oO cs ps lds st labs) (vW cs ps lds st) t
def oV (labs:List (List (Option Nat))) (t:Wt):List (Option Nat):=(QJ cs ps lds st labs t).take cs.length
end
theorem t6 {cs:List Str} {ps:List Pt} {lds:List T3} {st:WT} {labs:List (List (Option Nat))} (hll:∀ l∈labs,l.length=cs.length) (t:Wt) (h:t.leafW=true) (g:t.good labs.length):(oO cs ps lds st labs t).length=cY cs ps:=by
 cases t with
 | turn a=>cases h
 | two o a b=>cases h
 | num n=>exact A8 _
 | name n=>exact A8 _
 | piece k =>
  obtain ⟨lb,hlb⟩:∃ lb,labs[k.toNat]?=some lb:=⟨_,List.getElem?_eq_getElem (by have:=g.1;have:=g.2;omega)⟩
  simp only [oO,hlb,Option.getD_some,List.length_append,List.length_replicate,hll lb (List.mem_of_getElem? hlb)];rfl
theorem Ds {kn:Wt->List (Option Nat)} {sg:Nat->List (List (Option Nat))->List (Option Nat)} {N:Nat} {m:Int} (h1:∀ t,t.leafW=true->t.good m->(kn t).length=N) (h2:∀ k parts,(sg k parts).length=N):∀ t:Wt,t.good m->(kL kn sg t).length=N
 | .num n,g=>h1 (.num n) rfl g
 | .name n,g=>h1 (.name n) rfl g
 | .piece n,g=>h1 (.piece n) rfl g
 | .turn a,_=>h2 _ _
 | .two o a b,_=>h2 _ _
theorem xI {cs:List Str} {ps:List Pt} {lds:List T3} {st:WT} {labs:List (List (Option Nat))} (hll:∀ l∈labs,l.length=cs.length) {t:Wt} (g:t.good labs.length):(oV cs ps lds st labs t).length=cs.length:=by
 unfold oV QJ
 rw [List.length_take,Ds (N:=cY cs ps) (t6 hll) (fun k p=>uH k p) t g]
 unfold cY;omega
def Ao (C Pt0:Addr):bG:=fun us M Q=>∃ (x dx pL:Addr) (cs:List Str) (ps:List Pt) (lds:List T3) (st:WT) (labs:List (List (Option Nat))) (t:Wt),us=[.ref x,t.toU,.ref pL]/\t.dep<=10/\t.good labs.length/\M x=some (.ins C dx (eQ cs ps lds st))/\yQ cs ps lds st/\M pL=some (.lst (labs.map fT))/\(∀ l∈labs,l.length=cs.length)/\M Pt0=some (.tbl QT)/\Q (fT (oV cs ps lds st labs t)) M
theorem BD {C c0 Pt0 frk:Addr} (F:cK K "tree_label" "tree_label" eE f fd) (hfd:fd.code=.ref c0) (hm:mg "tree_label"=some (.ref f)) (hK:PySem.W.codeHdIn K c0 Pt0=true) (hB:gJ base mg) (c_Wiring:L2.fQ K C) (n_classes:bY K C "classes") (bB:mg "len"=none) (eK:mg "tuple"=none) (o6:mg "reckoned"=some (.ref frk)) (k_reckoned:PySem.W.keepIn K (.ref frk)=true)
  (rX:∀ (base:Heap) (fl:Addr) (s:bG) (fl':Addr) (s':bG),gJ base mg->eY P w K mg base 5 fl s->eY P w K mg base 5 fl' s'->Callee P w K mg base 16 "reckoned" (qZ 10 fl s fl' s') []) (CL_known_prices:∀ base,gJ base mg->Callee P w K mg base 4 "known_prices" (Av C) []) (CL_sign_prices:∀ base,gJ base mg->Callee P w K mg base 4 "sign_prices" (As C) []):Callee P w K mg base 17 "tree_label" (Ao C Pt0) []:=by
 refine FG F hfd hm tQ (q9 fun _ _ _ _ _ _ _ _ _=>rfl) (fun us M Q h=>by obtain ⟨_,_,_,_,_,_,_,_,_,rfl,_⟩:=h;rfl) (aE (aS 3 tQ.nd (NG (P:=Pt0) (q:=QT) 4 ["leaf","wiring","labels"] ["leaf"] [0,2] ["word","parts","wiring"] ["word","parts"] [0] o6 k_reckoned rX hB (NC (uv 1) (HC (P:=Pt0) (q:=QT) hK hB (HC (P:=Pt0) (q:=QT) hK hB OR))) (fun base hBm=>(aK (CL_known_prices base hBm) (aA (uv 1) (aA (uv 0) (aA (uv 2) aB))) (hj:=by dsimp only [CI];omega))) (fun base hBm=>(aK (CL_sign_prices base hBm) (aA (uv 2) (aA (uv 0) (aA (uv 1) aB))) (hj:=by dsimp only [CI];omega)))))
 (aL (bD (sG pJ eK (aA (rR (own:=false) (uv 3) pK (pG (dX dO bB (aA (dU c_Wiring n_classes (uv 0)) aB)))) aB))))) ?_
 rintro us M Q ⟨x,dx,pL,cs,ps,lds,st,labs,t,rfl,hd,hg,hx,hW,hL,hll,hP,q⟩
 obtain ⟨k1,k2,k3,k4,k5⟩:=i9 (cs:=cs) (ps:=ps) (lds:=lds) (st:=st)
 have exP:x≠Pt0:=fun z=>by rw [z,hP] at hx;cases hx
 have eLP:pL≠Pt0:=fun z=>by rw [z,hP] at hL;cases hL
 refine aI fun V hV=>?_
 simp! only [bC,hName,rM,C3,GX,Ft,Mr]
 have hxd:iX M Pt0 x=some (.ins C dx (eQ cs ps lds st)):=by rw [kH exP];exact hx
 have hLd:iX M Pt0 pL=some (.lst (labs.map fT)):=by rw [kH eLP];exact hL
 refine ⟨hP,fun fl=>⟨hP,fun fs=>⟨hP,fun u hu=>?_,fun u hu=>?_,fun hno=>⟨t,cY cs ps,(labs.length:Int),oO cs ps lds st labs,vW cs ps lds st,rfl,hd,hg,⟨?_,?_,t6 hll,fun k p=>uH k p⟩,hno,?_⟩⟩⟩⟩
 ·have hu':some u∈[some (U.ref x),some (U.ref pL)]:=hu
  rcases List.mem_cons.mp hu' with e | e
  ·cases e;trivial
  ·cases List.mem_singleton.mp e;trivial
 ·have hu':some u∈[some (U.ref x)]:=hu
  cases List.mem_singleton.mp hu';trivial
 ·intro t' M' Q' hs h1 h2 h3
  refine ⟨rfl,?_⟩
  simp! only [oR]
  exact ⟨x,dx,pL,cs,ps,lds,st,labs,t',rfl,h1,h2,hs _ _ hxd,hW,hs _ _ hLd,hll,h3⟩
 ·intro k parts M' Q' hs h1 h2 h3 h4
  refine ⟨rfl,?_⟩
  simp! only [oR]
  exact ⟨x,dx,cs,ps,lds,st,k,parts,rfl,h1,hs _ _ hxd,hW,h2,h3,h4⟩
 ·have eM:mup (iX M Pt0) Pt0 (.tbl QT)=M:=by
   funext b
   by_cases hb:b=Pt0
   ·rw [hb,aD,hP]
   ·rw [aG hb,kH hb]
  rw [eM]
  subst hV
  have f1:dF C (Str.ofString "classes") (.ref x) M=some (aX cs):=(cD hx).trans k1
  have hrl:=Ds (N:=cY cs ps) (t6 (lds:=lds) (st:=st) hll) (fun k p=>uH (cs:=cs) (ps:=ps) (lds:=lds) (st:=st) k p) t hg
  have hcut:gE (bH (kL (oO cs ps lds st labs) (vW cs ps lds st) t)) none (some (cs.length:Int))=bH (oV cs ps lds st labs t):=by
   rw [bH,zS,HN _ (by rw [hrl];unfold cY;omega)];rfl
  simp! only [bV,g6,f1,aX,List.length_map,hcut]
  exact aW q
def lB (cs:List Str) (ps:List Pt) (lds:List T3) (st:WT) (ts:List Wt):List (List (Option Nat)):=ts.foldl (fun acc t=>acc++[oV cs ps lds st acc t]) []
theorem AW (cs:List Str) (ps:List Pt) (lds:List T3) (st:WT) (ts:List Wt) (t:Wt):lB cs ps lds st (ts++[t])=lB cs ps lds st ts++[oV cs ps lds st (lB cs ps lds st ts) t]:=by
 unfold lB;rw [List.foldl_append];rfl
theorem vD {cs:List Str} {ps:List Pt} {lds:List T3} {st:WT} {ts:List Wt} (hts:∀ (i:Nat) (t:Wt),ts[i]?=some t->t.good i):∀ i,i<=ts.length->(lB cs ps lds st (ts.take i)).length=i/\∀ l∈lB cs ps lds st (ts.take i),l.length=cs.length
 | 0,_=>⟨rfl,fun l hl=>by cases hl⟩
 | i + 1,hi=>by
  obtain ⟨h1,h2⟩:=vD hts i (by omega)
  have ht:ts[i]?=some ts[i]:=List.getElem?_eq_getElem (by omega)
  rw [List.take_add_one,ht,Option.toList_some,AW]
  refine ⟨by rw [List.length_append,h1];rfl,fun l hl=>?_⟩
  rcases List.mem_append.mp hl with hl | hl
  ·exact h2 l hl
  ·cases List.mem_singleton.mp hl
   exact xI h2 (by rw [h1];exact hts i _ ht)
def uX (cs:List Str) (tls:List Tl) (ts:List Wt):List (List (Option Nat)):=lB cs (aN tls) (bO cs tls) (kJ cs tls) ts
structure Ms (ts:List Wt):Prop where
 len:ts.length<=10
 ok:∀ (i:Nat) (t:Wt),ts[i]?=some t->t.good i
 dep:∀ t∈ts,t.dep<=10
def pX (ts:List Wt):U:=.tup (ts.map Wt.toU)
def Ii (C Pt0:Addr):bG:=fun us M Q=>∃ (cs:List Str) (tls:List Tl) (ts:List Wt),us=[fE cs tls,pX ts]/\mM cs tls/\Ms ts/\M Pt0=some (.tbl QT)/\Q (.lst ((uX cs tls ts).map fT)) M
theorem Bx {C Pt0:Addr} (F:cK K "web_labels" "web_labels" iR f fd) (hm:mg "web_labels"=some (.ref f)) (K_Wiring:rN P w K mg base 9 "Wiring" C (zV C)) (p7:Callee P w K mg base 17 "tree_label" (Ao C Pt0) []):Callee P w K mg base 18 "web_labels" (Ii C Pt0) []:=by
 refine bP F hm kW (t8 fun _ _ _ _ _ _ _ _=>rfl) (aE (aS 2 kW.nd (EU K_Wiring (aA (uv 0) aB)))
 (aE (aS 3 kW.nd (cF (own:=true) aB))
 (aE (dW (dS (uv 1)) (aU (k:=1000) 4 kW.nd)
 (aL (fA (jT (uv 3) (aA (aK p7 (aA (uv 2) (aA (uv 4) (aA (uv 3) aB)))) aB)))))
 (aL (bD (uv 3)))))) ?_
 rintro us M Q ⟨cs,tls,ts,rfl,hT,hWb,hP,q⟩
 refine ⟨rfl,?_⟩
 refine aI fun V hV=>?_
 simp! only [bC,hName,B0]
 refine fun x dx hx hdx ne=>⟨x,dx,cs,tls,rfl,aD,hT,rfl,?_⟩
 rw [aV]
 have hW:=RG hT
 generalize hps:aN tls=ps at *
 generalize hld:bO cs tls=lds at *
 generalize hst:kJ cs tls=st at *
 generalize hM1:mup M x (.ins C dx (eQ cs ps lds st))=M1
 have hx1:M1 x=some (.ins C dx (eQ cs ps lds st)):=by rw [<- hM1,aD]
 have hs1:Sub M M1:=by rw [<- hM1];exact (Sub.refl M).mup hx
 subst hV
 refine aI fun V hV=>?_
 simp! only [bC,hName]
 refine fun r hr=>?_
 have exr:x≠r:=fun z=>by rw [<- z,hx1] at hr;cases hr
 have hMr:M r=none:=by
  cases h:M r with
  | none=>rfl
  | some mo=>rw [hs1 r mo h] at hr;cases hr
 have erP:Pt0≠r:=fun z=>by rw [z,hMr] at hP;cases hP
 subst hV
 refine aI fun V hV=>?_
 refine eA (S:=⟨none,ts.map Wt.toU⟩) (M1:=mup M1 r (.lst [])) (fun R r=>by simp! only [pX];exact r)
  (fun i τ' M'=>∃ (e4:Option U),τ'=[some (fE cs tls),some (pX ts),some (.ref x),some (.ref r),e4]/\M'=mup M1 r (.lst ((lB cs ps lds st (ts.take i)).map fT))/\i<=ts.length)
  ⟨none,rfl,rfl,Nat.zero_le _⟩ (fun i τ' M' _=>fun a e=>by cases e) ?_ ?_
 ·rintro i v τ' M' hi ⟨e4,rfl,rfl,_⟩
  rw [List.getElem?_map] at hi
  cases ht:ts[i]? with
  | none=>rw [ht] at hi;cases hi
  | some t =>
   rw [ht] at hi;cases hi
   have hil:i < ts.length:=(List.getElem?_eq_some_iff.mp ht).1
   have h10:=hWb.len
   obtain ⟨g1,g2⟩:=vD (cs:=cs) (ps:=ps) (lds:=lds) (st:=st) hWb.ok i (by omega)
   rw [List.take_add_one,ht,Option.toList_some,AW]
   generalize lB cs ps lds st (ts.take i)=labs at *
   simp! only [hName,fM]
   refine ⟨⟨_,bT aD⟩,x,dx,r,cs,ps,lds,st,labs,t,rfl,hWb.dep t (List.mem_of_getElem? ht),by rw [g1];exact hWb.ok i t ht,by rw [aG exr];exact hx1,hW,aD,g2,by rw [aG erP];exact hs1 _ _ hP,?_⟩
   simp! only [true_and]
   refine ⟨by rw [List.length_map];exact big (by omega),_,rfl,?_,by omega⟩
   rw [List.map_append];rfl
 ·rintro τ' M' ⟨e4,rfl,rfl,_⟩
  rw [show (Src.mk none (ts.map Wt.toU)).xs.length=ts.length from List.length_map _,List.take_length]
  show V _ _
  subst hV
  simp! only [bV]
  have e:uX cs tls ts=lB cs ps lds st ts:=by unfold uX;rw [hps,hld,hst]
  rw [e] at q
  exact ⟨_,M,hs1.mup hMr,.inr ⟨r,_,rfl,aD,hMr,rfl⟩,q⟩
def Au:bG:=fun us M Q=>∃ l:List (Option Nat),us=[.lst (bH l)]/\Q (oN (dD l)) M
theorem KS (F:cK K "total" "total" pH f fd) (hm:mg "total"=some (.ref f)) (pE:mg "sum"=none):Callee P w K mg base 1 "total" Au []:=by
 refine bP F hm Lf (CO fun _ _ _ _ _ _ _=>rfl) (aL (bD (BN (bW Lx jO (uv 0)) jO (dX DB pE (aA (uv 0) aB))))) ?_
 rintro us M Q ⟨l,rfl,q⟩
 refine ⟨rfl,?_⟩
 have hfl:=Ak l
 simp! only [bV,jG]
 cases hany:(bH l).any (fun u=>oW u U.non) with
 | true =>
  have hs:=qO hany
  rw [hs] at q
  simp! only [hfl,jA,hany]
  exact aW q
 | false =>
  obtain ⟨ns,s,g1,g2,g3⟩:=oJ hany
  rw [g3] at q
  simp! only [hfl,jA,hany,yM,g1,g2]
  exact aW q
def zF (cs:List Str) (ps:List Pt) (lds:List T3) (s:Str):List (Option Nat):=(vI lds ((gC cs ps).set (hZ cs s) (some 0))).take cs.length
def Hz (C:Addr):bG:=fun us M Q=>∃ (x dx:Addr) (cs:List Str) (ps:List Pt) (lds:List T3) (st:WT) (s:Str),us=[.ref x,.str s]/\s∈cs/\M x=some (.ins C dx (eQ cs ps lds st))/\yQ cs ps lds st/\Q (fT (zF cs ps lds s)) M
theorem NX {C:Addr} (F:cK K "kept_label" "kept_label" iJ f fd) (hm:mg "kept_label"=some (.ref f)) (c_Wiring:L2.fQ K C) (n_columns:bY K C "columns") (n_classes:bY K C "classes") (bB:mg "len"=none) (eK:mg "tuple"=none) (jC:Callee P w K mg base 2 "with_passes" (rB C) []):Callee P w K mg base 3 "kept_label" (Hz C) []:=by
 refine bP F hm tU (t8 fun _ _ _ _ _ _ _ _=>rfl) (aE (aS 2 tU.nd (iS (own:=true) (cF (own:=true) (aA jO aB)) (dX dO bB (aA (dU c_Wiring n_columns (uv 0)) aB))))
 (aE (rF aP (uv 2) (lX (dU c_Wiring n_classes (uv 0)) (aA (uv 1) aB)))
 (aL (bD (sG pJ eK (aA (rR (own:=false) (aK jC (aA (uv 0) (aA (uv 2) aB))) pK (pG (dX dO bB (aA (dU c_Wiring n_classes (uv 0)) aB)))) aB)))))) ?_
 rintro us M Q ⟨x,dx,cs,ps,lds,st,s,rfl,hs,hx,hW,q⟩
 refine ⟨rfl,?_⟩
 obtain ⟨k1,k2,k3,k4,k5⟩:=i9 (cs:=cs) (ps:=ps) (lds:=lds) (st:=st)
 have hn:=hW.n1
 refine aI fun V hV=>?_
 simp! only [bC,hName,g6]
 refine fun t1 ht1=>?_
 have ext:x≠t1:=fun z=>by rw [<- z,hx] at ht1;cases ht1
 have f2:dF C (Str.ofString "columns") (.ref x) (mup M t1 (.lst [.non]))=some (.lst (eD cs ps)):=(cD (by rw [aG ext];exact hx)).trans k2
 simp! only [f2,tG]
 refine ⟨by omega,by omega,by rw [Int.toNat_natCast];exact small (by omega),?_⟩
 rw [Int.toNat_natCast,u0]
 refine fun r hr=>?_
 have etr:t1≠r:=fun z=>by rw [<- z,aD] at hr;cases hr
 have hMr:M r=none:=by rw [aG etr.symm] at hr;exact hr
 have exr:x≠r:=fun z=>by rw [<- z,hx] at hMr;cases hMr
 have e0:List.replicate (cY cs ps) none=gC cs ps:=rfl
 rw [e0]
 generalize hM1:mup M t1 (.lst [U.non])=M1 at *
 have hsub:Sub M M1:=by rw [<- hM1];exact (Sub.refl M).mup ht1
 have hx1:M1 x=some (.ins C dx (eQ cs ps lds st)):=hsub _ _ hx
 have hix:=(pV hs).1
 subst hV
 refine aI fun V hV=>?_
 have f1:dF C (Str.ofString "classes") (.ref x) (mup M1 r (.lst (bH (gC cs ps))))=some (aX cs):=(cD (by rw [aG exr];exact hx1)).trans k1
 simp! only [nS,w4,g6,f1,aX]
 refine ⟨⟨_,rfl⟩,rC hs ?_⟩
 simp! only [jD,g9]
 refine ⟨hZ cs s,Am (by unfold cY;omega),?_⟩
 rw [show (U.int 0)=U.int ((0:Nat):Int) from rfl,Dl]
 subst hV
 simp! only [bV,g6]
 refine ⟨x,dx,r,cs,ps,lds,st,(gC cs ps).set (hZ cs s) (some 0),rfl,by rw [aG exr];exact hx1,hW,aD,by rw [List.length_set,g9],?_⟩
 have f1':dF C (Str.ofString "classes") (.ref x) (mup M1 r (.lst (bH ((gC cs ps).set (hZ cs s) (some 0)))))=some (aX cs):=(cD (by rw [aG exr];exact hx1)).trans k1
 have hcut:gE (bH (vI lds ((gC cs ps).set (hZ cs s) (some 0)))) none (some (cs.length:Int))=bH (zF cs ps lds s):=by
  rw [bH,zS,HN _ (by rw [qL,List.length_set,g9];unfold cY;omega)];rfl
 simp! only [f1',aX,List.length_map,hcut]
 exact ⟨_,M,hsub.mup hMr,.inl rfl,q⟩
theorem KU {cs:List Str} {ps:List Pt} {lds:List T3} {s:Str}:(zF cs ps lds s).length=cs.length:=by
 unfold zF
 rw [List.length_take,qL,List.length_set,g9]
 unfold cY;omega
def lQ:Option Str->U
 | none=>.non
 | some s=>.str s
def tS (l:List (Option Nat)) (i:Nat):Option Nat:=l[i]?.getD none
abbrev FS:=Option Nat × List (List (Option Nat))
def j5 (cs:List Str) (ps:List Pt) (lds:List T3) (c:FS) (own:List (Option Nat)):Option Str->FS
 | none=>(c.1,c.2++[own])
 | some s=>(dD [c.1,tS own (hZ cs s)],c.2++[zF cs ps lds s])
def wM (c:Option Nat) (r:Addr):U:=.tup [oN c,.ref r]
def C0 (C:Addr):bG:=fun us M Q=>∃ (x dx r:Addr) (cs:List Str) (ps:List Pt) (lds:List T3) (st:WT) (c:FS) (own:List (Option Nat)) (k:Option Str),us=[.ref x,wM c.1 r,fT own,lQ k]/\(∀ s,k=some s->s∈cs)/\M x=some (.ins C dx (eQ cs ps lds st))/\yQ cs ps lds st/\M r=some (.lst (c.2.map fT))/\c.2.length<=100/\own.length=cs.length /\
 ∀ r',M r'=none->Q (wM (j5 cs ps lds c own k).1 r') (mup M r' (.lst ((j5 cs ps lds c own k).2.map fT)))
theorem Hf {C:Addr} (F:cK K "behind_choice" "behind_choice" fK f fd) (hm:mg "behind_choice"=some (.ref f)) (c_Wiring:L2.fQ K C) (n_classes:bY K C "classes") (zP:Callee P w K mg base 1 "total" Au []) (CP:Callee P w K mg base 3 "kept_label" (Hz C) []):Callee P w K mg base 4 "behind_choice" (C0 C) []:=by
 refine bP F hm pT (He fun _ _ _ _ _ _ _ _ _ _=>rfl) (aE (cM (bW GW (uv 3) jO)
 (aL (bD (bZ (aA (aQ (uv 1) aP) (aA (cG (own:=true) (aQ (uv 1) aP) (cF (own:=false) (aA (uv 2) aB))) aB)))))
 bQ)
 (aE (aS 4 pT.nd (aK zP (aA (cF (own:=false) (aA (aQ (uv 1) aP) (aA (aQ (uv 2) (lX (dU c_Wiring n_classes (uv 0)) (aA (uv 3) aB))) aB))) aB)))
 (aL (bD (bZ (aA (uv 4) (aA (cG (own:=true) (aQ (uv 1) aP) (cF (own:=false) (aA (aK CP (aA (uv 0) (aA (uv 3) aB))) aB))) aB))))))) ?_
 rintro us M Q ⟨x,dx,r,cs,ps,lds,st,c,own,k,rfl,hk,hx,hW,hr,hcl,hol,q⟩
 refine ⟨rfl,?_⟩
 obtain ⟨k1,k2,k3,k4,k5⟩:=i9 (cs:=cs) (ps:=ps) (lds:=lds) (st:=st)
 refine aI fun V hV=>?_
 refine cB fun A B hA hB=>?_
 cases k with
 | none =>
  simp! only [lQ]
  subst hA
  simp! only [bV,wM,bT hr]
  refine ⟨by rw [List.length_map];exact small (by omega),fun r' hr'=>?_⟩
  have:=q r' hr'
  simp only [j5,List.map_append] at this
  exact aW this
 | some s =>
  have hs:=hk s rfl
  have f1:dF C (Str.ofString "classes") (.ref x) M=some (aX cs):=(cD hx).trans k1
  obtain ⟨v,hv⟩:∃ v,own[hZ cs s]?=some v:=⟨_,List.getElem?_eq_getElem (by have:=(pV hs).1;omega)⟩
  have hat:=rW hv
  have hvl:tS own (hZ cs s)=v:=by unfold tS;rw [hv];rfl
  simp! only [lQ]
  subst hB
  simp only [cA]
  subst hV
  refine aI fun V hV=>?_
  simp! only [bC,hName,wM,lQ,fT,g6,f1,aX,w4]
  refine ⟨⟨_,rfl⟩,rC hs ?_⟩
  simp! only [hat]
  refine ⟨[c.1,v],rfl,?_⟩
  subst hV
  simp! only [bV,wM,lQ,bT hr]
  refine ⟨x,dx,cs,ps,lds,st,s,rfl,hs,hx,hW,?_⟩
  simp! only [bT hr]
  refine ⟨by rw [List.length_map];exact small (by omega),fun r' hr'=>?_⟩
  have:=q r' hr'
  simp only [j5,hvl,List.map_append] at this
  exact aW this
def mH (g:Nat × Str):U:=.tup [.int (g.1:Int),.str g.2]
def eT (cs:List Str) (labs:List (List (Option Nat))) (g:Nat × Str):Option (Option Nat):=if g.1 < labs.length then some (tS (labs[g.1]?.getD []) (hZ cs g.2)) else none
def reachF (cs:List Str) (labs:List (List (Option Nat))) (goals:List (Nat × Str)):List (Option Nat):=goals.filterMap (eT cs labs)
def Ed (C:Addr):bG:=fun us M Q=>∃ (x dx r:Addr) (cs:List Str) (ps:List Pt) (lds:List T3) (st:WT) (c:FS) (goals:List (Nat × Str)),us=[.ref x,wM c.1 r,.lst (goals.map mH)]/\(∀ g∈goals,g.2∈cs)/\goals.length<=100/\M x=some (.ins C dx (eQ cs ps lds st))/\M r=some (.lst (c.2.map fT))/\(∀ l∈c.2,l.length=cs.length)/\Q (oN (dD (c.1 :: reachF cs c.2 goals))) M
theorem Lu {C:Addr} (F:cK K "state_price" "state_price" gQ f fd) (hm:mg "state_price"=some (.ref f)) (c_Wiring:L2.fQ K C) (n_classes:bY K C "classes") (bB:mg "len"=none) (zP:Callee P w K mg base 1 "total" Au []):Callee P w K mg base 2 "state_price" (Ed C) []:=by
 refine bP F hm nH (q9 fun _ _ _ _ _ _ _ _ _=>rfl) (aE (aS 3 nH.nd (aQ (uv 1) aP))
 (aE (nB 4 nH.nd false ["number","cls","labels","wiring"] 2 [3,0] (dS (uv 2)) (jV (n:=2) (bN (aU (k:=2) 0 (by dsimp only [bR];decide +kernel)) (bN (aU (k:=2) 1 (by dsimp only [bR];decide +kernel)) iQ))) (vX (bW pD (uv 0) (dX dO bB (aA (uv 2) aB)))) (aQ (aQ (uv 2) (uv 0)) (lX (dU c_Wiring n_classes (uv 3)) (aA (uv 1) aB))))
 (aL (bD (aK zP (aA (cG (own:=false) (cF (own:=false) (aA (aQ (uv 1) aP) aB)) (uv 4)) aB)))))) ?_
 rintro us M Q ⟨x,dx,r,cs,ps,lds,st,c,goals,rfl,hgc,hgl,hx,hr,hll,q⟩
 refine ⟨rfl,?_⟩
 obtain ⟨k1,k2,k3,k4,k5⟩:=i9 (cs:=cs) (ps:=ps) (lds:=lds) (st:=st)
 refine aI fun V hV=>?_
 simp! only [bC,hName,wM]
 subst hV
 refine aI fun V hV=>?_
 simp only [bC,hName]
 refine t7 (S:=⟨none,goals.map mH⟩) (M1:=M) (goals.map fun g=>(eT cs c.2 g).map oN) (fun R r=>by simp! only [true_and];exact r) (by simp) (by rw [List.length_map];exact small (by omega)) (by intro a e;cases e) (fun i xx z hxx hz M' hS R r'=>?_) ?_
 ·rw [List.getElem?_map] at hxx hz
  cases hg:goals[i]? with
  | none=>rw [hg] at hxx;cases hxx
  | some g =>
   rw [hg] at hxx hz;cases hxx;cases hz
   have r':R ((eT cs c.2 g).map oN) M':=r'
   have hr':=hS r _ hr
   have hx':=hS x _ hx
   have f1:dF C (Str.ofString "classes") (.ref x) M'=some (aX cs):=(cD hx').trans k1
   have hs:=hgc g (List.mem_of_getElem? hg)
   simp! only [i5,iD,kM,hName,mH,bT hr',List.length_map]
   by_cases hlt:g.1 < c.2.length
   ·have hlt':(g.1:Int) < (c.2.length:Int):=by omega
    obtain ⟨lb,hlb⟩:∃ lb,c.2[g.1]?=some lb:=⟨_,List.getElem?_eq_getElem hlt⟩
    have hlen:=hll lb (List.mem_of_getElem? hlb)
    obtain ⟨v,hv⟩:∃ v,lb[hZ cs g.2]?=some v:=⟨_,List.getElem?_eq_getElem (by have:=(pV hs).1;omega)⟩
    have hat1:dP (c.2.map fT) (g.1:Int)=some (fT lb):=eL (by rw [List.getElem?_map,hlb];rfl)
    have hat2:=rW hv
    have e:eT cs c.2 g=some v:=by unfold eT tS;rw [if_pos hlt,hlb];simp only [Option.getD_some,hv]
    rw [e] at r'
    simp! only [decide_eq_true hlt',hat1,fT,g6,f1,aX,w4]
    refine ⟨⟨_,rfl⟩,rC hs ?_⟩
    simp! only [hat2]
    exact r'
   ·have hlt':¬ (g.1:Int) < (c.2.length:Int):=by omega
    have e:eT cs c.2 g=none:=by unfold eT;rw [if_neg hlt]
    rw [e] at r'
    simp! only [decide_eq_false hlt']
    exact r'
 have est:(goals.map fun g=>(eT cs c.2 g).map oN).filterMap id=bH (reachF cs c.2 goals):=by
  unfold reachF bH
  clear hgc hgl q
  induction goals with
  | nil=>rfl
  | cons t l ih =>
   rw [List.map_cons,List.filterMap_cons,List.filterMap_cons]
   simp only [id]
   cases h:eT cs c.2 t with
   | none=>simp only [Option.map_none];exact ih
   | some y=>simp only [Option.map_some,List.map_cons];exact congrArg _ ih
 rw [est]
 simp only [iH]
 subst hV
 have hrl:(reachF cs c.2 goals).length<=100:=Nat.le_trans (List.length_filterMap_le _ _) hgl
 simp! only [bV,wM,jD]
 refine ⟨small (by omega),c.1 :: reachF cs c.2 goals,rfl,aW q⟩
def gU (cs:List Str) (ps:List Pt) (lds:List T3) (st:WT) (l:List (Wt × Option Str)):FS:=l.foldl (fun c p=>j5 cs ps lds c (oV cs ps lds st c.2 p.1) p.2) (some 0,[])
theorem tB (cs:List Str) (ps:List Pt) (lds:List T3) (st:WT) (l:List (Wt × Option Str)) (p:Wt × Option Str):gU cs ps lds st (l++[p])=j5 cs ps lds (gU cs ps lds st l) (oV cs ps lds st (gU cs ps lds st l).2 p.1) p.2:=by
 unfold gU;rw [List.foldl_append];rfl
theorem J9 {cs:List Str} {ps:List Pt} {lds:List T3} {c:FS} {own:List (Option Nat)} {k:Option Str} (h:∀ l∈c.2,l.length=cs.length) (ho:own.length=cs.length):(j5 cs ps lds c own k).2.length=c.2.length + 1/\∀ l∈(j5 cs ps lds c own k).2,l.length=cs.length:=by
 cases k with
 | none =>
  refine ⟨by simp [j5],fun l hl=>?_⟩
  rcases List.mem_append.mp hl with hl | hl
  ·exact h l hl
  ·cases List.mem_singleton.mp hl;exact ho
 | some s =>
  refine ⟨by simp [j5],fun l hl=>?_⟩
  rcases List.mem_append.mp hl with hl | hl
  ·exact h l hl
  ·cases List.mem_singleton.mp hl;exact KU
theorem wW {cs:List Str} {ps:List Pt} {lds:List T3} {st:WT} {ts:List Wt} {fr:List (Option Str)} (hts:∀ (i:Nat) (t:Wt),ts[i]?=some t->t.good i):∀ i,i<=(ts.zip fr).length->(gU cs ps lds st ((ts.zip fr).take i)).2.length=i/\∀ l∈(gU cs ps lds st ((ts.zip fr).take i)).2,l.length=cs.length
 | 0,_=>⟨rfl,fun l hl=>by cases hl⟩
 | i + 1,hi=>by
  obtain ⟨h1,h2⟩:=wW (cs:=cs) (ps:=ps) (lds:=lds) (st:=st) (fr:=fr) hts i (by omega)
  have ht:(ts.zip fr)[i]?=some (ts.zip fr)[i]:=List.getElem?_eq_getElem (by omega)
  rw [List.take_add_one,ht,Option.toList_some,tB]
  have:=J9 (cs:=cs) (ps:=ps) (lds:=lds) (k:=(ts.zip fr)[i].2) h2 (xI (ps:=ps) (lds:=lds) (st:=st) h2 (t:=(ts.zip fr)[i].1) (by rw [h1];exact hts i _ (xY ht).1))
  rw [h1] at this
  exact this
def uB (cs:List Str) (tls:List Tl) (ts:List Wt) (goals:List (Nat × Str)) (fr:List (Option Str)):Option Nat :=
 dD ((gU cs (aN tls) (bO cs tls) (kJ cs tls) (ts.zip fr)).1 :: reachF cs (gU cs (aN tls) (bO cs tls) (kJ cs tls) (ts.zip fr)).2 goals)
def EH (C Pt0:Addr):bG:=fun us M Q=>∃ (cs:List Str) (tls:List Tl) (ts:List Wt) (goals:List (Nat × Str)) (fr:List (Option Str)),us=[fE cs tls,pX ts,.lst (goals.map mH),.tup (fr.map lQ)]/\mM cs tls/\Ms ts/\(∀ g∈goals,g.2∈cs)/\goals.length<=100/\(∀ s,some s∈fr->s∈cs)/\fr.length<=100/\M Pt0=some (.tbl QT)/\Q (oN (uB cs tls ts goals fr)) M
theorem KY {C Pt0:Addr} (F:cK K "front_price" "front_price" gN f fd) (hm:mg "front_price"=some (.ref f)) (oZ:mg "zip"=none) (K_Wiring:rN P w K mg base 9 "Wiring" C (zV C)) (p7:Callee P w K mg base 17 "tree_label" (Ao C Pt0) []) (y6:Callee P w K mg base 4 "behind_choice" (C0 C) []) (Bp:Callee P w K mg base 2 "state_price" (Ed C) []):Callee P w K mg base 18 "front_price" (EH C Pt0) []:=by
 refine bP F hm gA (He fun _ _ _ _ _ _ _ _ _ _=>rfl) (aE (aS 4 gA.nd (EU K_Wiring (aA (uv 0) aB)))
 (aE (aS 5 gA.nd (bZ (aA aP (aA (cF (own:=true) aB) aB))))
 (aE (dW (Pp oZ (aA (uv 1) (aA (uv 3) aB))) (jV (n:=2) (bN (aU (k:=1000) 6 gA.nd) (bN (aU (k:=1000) 7 gA.nd) iQ)))
 (aL (aS 5 gA.nd (aK y6 (aA (uv 4) (aA (uv 5) (aA (aK p7 (aA (uv 4) (aA (uv 6) (aA (aQ (uv 5) aP) aB)))) (aA (uv 7) aB))))))))
 (aL (bD (aK Bp (aA (uv 4) (aA (uv 5) (aA (uv 2) aB))))))))) ?_
 rintro us M Q ⟨cs,tls,ts,goals,fr,rfl,hT,hWb,hgc,hgl,hfr,hfl,hP,q⟩
 refine ⟨rfl,?_⟩
 refine aI fun V hV=>?_
 simp! only [bC,hName,B0]
 refine fun x dx hx hdx ne=>⟨x,dx,cs,tls,rfl,aD,hT,rfl,?_⟩
 rw [aV]
 have hW:=RG hT
 unfold uB at q
 generalize hps:aN tls=ps at *
 generalize hld:bO cs tls=lds at *
 generalize hst:kJ cs tls=st at *
 generalize hM1:mup M x (.ins C dx (eQ cs ps lds st))=M1
 have hx1:M1 x=some (.ins C dx (eQ cs ps lds st)):=by rw [<- hM1,aD]
 have hs1:Sub M M1:=by rw [<- hM1];exact (Sub.refl M).mup hx
 subst hV
 refine aI fun V hV=>?_
 simp! only [bC,hName]
 refine fun r0 hr0=>?_
 have hMr:M r0=none:=by
  cases h:M r0 with
  | none=>rfl
  | some mo=>rw [hs1 r0 mo h] at hr0;cases hr0
 have exr:x≠r0:=fun z=>by rw [<- z,hx1] at hr0;cases hr0
 subst hV
 refine aI fun V hV=>?_
 have hzip:cX (ts.map Wt.toU) (fr.map lQ)=(ts.zip fr).map fun p=>U.tup [p.1.toU,lQ p.2]:=sJ _ _ _ _
 refine eA (S:=⟨none,(ts.zip fr).map fun p=>U.tup [p.1.toU,lQ p.2]⟩) (M1:=mup M1 r0 (.lst [])) (fun R r=>by simp! only [pX,hzip];exact r)
  (fun i τ' M'=>∃ (r:Addr) (e6 e7:Option U),τ'=[some (fE cs tls),some (pX ts),some (.lst (goals.map mH)),some (.tup (fr.map lQ)),some (.ref x),some (wM (gU cs ps lds st ((ts.zip fr).take i)).1 r),e6,e7]/\M' x=some (.ins C dx (eQ cs ps lds st))/\Sub M M'/\M' r=some (.lst ((gU cs ps lds st ((ts.zip fr).take i)).2.map fT))/\i<=(ts.zip fr).length)
  ⟨r0,none,none,rfl,by rw [aG exr];exact hx1,hs1.mup hMr,aD,Nat.zero_le _⟩ (fun i τ' M' _=>fun a e=>by cases e) ?_ ?_
 ·rintro i v τ' M' hi ⟨r,e6,e7,rfl,hx',hs',hr',_⟩
  rw [List.getElem?_map] at hi
  cases ht:(ts.zip fr)[i]? with
  | none=>rw [ht] at hi;cases hi
  | some p =>
   rw [ht] at hi;cases hi
   have hil:i < (ts.zip fr).length:=(List.getElem?_eq_some_iff.mp ht).1
   obtain ⟨ht1,ht2⟩:=xY ht
   have h10:=hWb.len
   have hzl:(ts.zip fr).length<=ts.length:=by rw [List.length_zip];omega
   obtain ⟨g1,g2⟩:=wW (cs:=cs) (ps:=ps) (lds:=lds) (st:=st) (fr:=fr) hWb.ok i (by omega)
   rw [List.take_add_one,ht,Option.toList_some,tB]
   generalize gU cs ps lds st ((ts.zip fr).take i)=c at *
   have hgd:p.1.good c.2.length:=by rw [g1];exact hWb.ok i _ ht1
   have hlf:=xI (ps:=ps) (lds:=lds) (st:=st) g2 hgd
   simp! only [i5,iD,kM,hName,bC,wM]
   refine ⟨x,dx,r,cs,ps,lds,st,c.2,p.1,rfl,hWb.dep _ (List.mem_of_getElem? ht1),hgd,hx',hW,hr',g2,hs' _ _ hP,?_⟩
   simp! only [true_and]
   refine ⟨x,dx,r,cs,ps,lds,st,c,oV cs ps lds st c.2 p.1,p.2,rfl,fun s e=>hfr s (by rw [<- e];exact List.mem_of_getElem? ht2),hx',hW,hr',by omega,hlf,fun r2 hr2=>?_⟩
   have exr2:x≠r2:=fun z=>by rw [<- z,hx'] at hr2;cases hr2
   have hMr2:M r2=none:=by
    cases h:M r2 with
    | none=>rfl
    | some mo=>rw [hs' r2 mo h] at hr2;cases hr2
   exact ⟨r2,_,_,rfl,by rw [aG exr2];exact hx',hs'.mup hMr2,aD,by omega⟩
 ·rintro τ' M' ⟨r,e6,e7,rfl,hx',hs',hr',_⟩
  have hzl:(Src.mk none ((ts.zip fr).map fun p=>U.tup [p.1.toU,lQ p.2])).xs.length=(ts.zip fr).length:=List.length_map _
  rw [hzl] at hr'
  rw [hzl]
  have g2:=(wW (cs:=cs) (ps:=ps) (lds:=lds) (st:=st) (fr:=fr) hWb.ok (ts.zip fr).length (Nat.le_refl _)).2
  rw [List.take_length] at hr' g2
  rw [List.take_length]
  show V _ _
  subst hV
  simp! only [bV]
  exact ⟨x,dx,r,cs,ps,lds,st,gU cs ps lds st (ts.zip fr),goals,rfl,hgc,hgl,hx',hr',g2,⟨_,M,hs',.inl rfl,q⟩⟩
def EA:bG:=fun us M Q=>∃ (f:Addr) (d x:Int) (cs:List Str) (tls:List Tl) (ts:List Wt),us=[.ref f,fE cs tls,pX ts]/\M f=some (.lst (bF d x))/\0<=d/\0<=x/\x<=2147484647/\fQ cs/\1<=ts.length/\ts.length<=10 /\
 ∀ (goals:List (Nat × Str)) (d' x':Int),(∀ g∈goals,g.2∈cs/\g.1 < ts.length)->goals.length<=10->0<=d'->0<=x'->x'<=2147484647->Q (.lst (goals.map mH)) (mup M f (.lst (bF d' x')))
theorem Lg (F:cK K "_law_goals" "_law_goals" jI f fd) (hm:mg "_law_goals"=some (.ref f)) (bB:mg "len"=none) (cQ:mg "range"=none) (aO:Callee P w K mg base 1 "_law_take" jW []):Callee P w K mg base 2 "_law_goals" EA []:=by
 refine bP F hm mC (q9 fun _ _ _ _ _ _ _ _ _=>rfl) (aE (aS 3 mC.nd (cF (own:=true) aB))
 (aE (dW (nO cQ (aA (cG (own:=false) aP (aK aO (aA (uv 0) (aA aP aB)))) aB)) (aU (k:=1000) 4 mC.nd)
 (aE (aS 5 mC.nd (aQ (cF (own:=false) (aA (gG (dX dO bB (aA (uv 2) aB)) aP) (aA (aK aO (aA (uv 0) (aA (dX dO bB (aA (uv 2) aB)) aB))) aB))) (aK aO (aA (uv 0) (aA aP aB)))))
 (aL (fA (jT (uv 3) (aA (bZ (aA (uv 5) (aA (aQ (aQ (uv 1) aP) (aK aO (aA (uv 0) (aA (dX dO bB (aA (aQ (uv 1) aP) aB)) aB)))) aB))) aB))))))
 (aL (bD (uv 3))))) ?_
 rintro us M Q ⟨r,d,x,cs,tls,ts,rfl,hM,hd,hx0,hx,hC,ht1,ht10,q⟩
 refine ⟨rfl,?_⟩
 have hc1:1<=cs.length:=by
  cases h:cs with
  | nil=>exact absurd h hC.ne
  | cons a b=>simp
 have hc6:=hC.len
 refine aI fun V hV=>?_
 simp! only [bC,hName]
 refine fun t ht=>?_
 have hrt:r≠t:=fun z=>by rw [<- z,hM] at ht;cases ht
 have est:mup M t (.lst [])=cJ M r t (bF d x) (([]:List (Nat × Str)).map mH):=by
  unfold cJ;rw [Cm hM];rfl
 rw [est]
 subst hV
 refine aI fun V hV=>?_
 show Cq _ _ _ _ _ _
 unfold Cq
 simp! only [true_and]
 refine ⟨r,d,x,3,rfl,nY hrt,hd,hx0,hx,by omega,by omega,fun n1 d1 x1 a1 b1 c1 c2 c3=>?_⟩
 rw [gZ hrt]
 obtain ⟨k1,hk1⟩:∃ k1:Nat,1 + n1=(k1:Int):=⟨(1 + n1).toNat,by omega⟩
 simp! only [hk1]
 refine ⟨by omega,by omega,?_⟩
 rw [Int.toNat_natCast]
 refine ⟨fun i τ' M'=>∃ (e4 e5:Option U) (goals:List (Nat × Str)) (d6 x6:Int),τ'=[some (.ref r),some (fE cs tls),some (pX ts),some (.ref t),e4,e5]/\M'=cJ M r t (bF d6 x6) (goals.map mH)/\(∀ g∈goals,g.2∈cs/\g.1 < ts.length)/\goals.length<=i/\0<=d6/\0<=x6/\x6<=2147484647,
  ⟨none,none,[],d1,x1,rfl,rfl,(fun g hg=>by cases hg),Nat.zero_le _,c1,c2,c3⟩,(fun i τ' M' _=>fun a e=>by cases e),?_,?_⟩
 ·rintro i v τ' M' hi ⟨e4,e5,goals,d6,x6,rfl,rfl,hgs,hlen,j1,j2,j3⟩
  obtain ⟨rfl,hik⟩:=iY hi
  simp! only [hName]
  refine aI fun V2 hV2=>?_
  simp! only [bC,hName,pX,List.length_map]
  refine ⟨r,d6,x6,ts.length,rfl,nY hrt,j1,j2,j3,by omega,by omega,fun n7 d7 x7 a7 b7 l1 l2 l3=>?_⟩
  rw [gZ hrt]
  simp! only [true_and]
  refine ⟨r,d7,x7,2,rfl,nY hrt,l1,l2,l3,by omega,by omega,fun n8 d8 x8 a8 b8 o1 o2 o3=>?_⟩
  rw [gZ hrt]
  obtain ⟨gn,hgn,hgl⟩:∃ gn:Nat,dP [U.int ((ts.length:Int) - 1),U.int n7] n8=some (.int (gn:Int))/\gn < ts.length:=by
   have e:n8=0\/n8=1:=by omega
   rcases e with rfl | rfl
   ·exact ⟨ts.length - 1,by show some _=some _;congr 2;omega,by omega⟩
   ·exact ⟨n7.toNat,by show some _=some _;congr 2;omega,by omega⟩
  refine ⟨_,hgn,?_⟩
  subst hV2
  simp! only [fM,fE,aX,List.length_map]
  refine ⟨⟨_,bT sA⟩,r,d8,x8,cs.length,rfl,nY hrt,o1,o2,o3,by omega,by omega,fun n9 d9 x9 a9 b9 p1 p2 p3=>?_⟩
  rw [gZ hrt]
  obtain ⟨s,hs,hat⟩:=yA (cs:=cs) (n:=n9) a9 b9
  refine ⟨_,hat,?_⟩
  simp! only [sA]
  refine ⟨by rw [List.length_map];exact big (by omega),?_⟩
  rw [Dy]
  refine ⟨_,_,goals++[(gn,s)],d9,x9,rfl,by rw [List.map_append];rfl,fun g hg=>?_,by rw [List.length_append];simp;omega,p1,p2,p3⟩
  rcases List.mem_append.mp hg with hg | hg
  ·exact hgs g hg
  ·cases List.mem_singleton.mp hg;exact ⟨hs,hgl⟩
 ·rintro τ' M' ⟨e4,e5,goals,d6,x6,rfl,rfl,hgs,hlen,j1,j2,j3⟩
  rw [gX] at hlen
  show V _ _
  subst hV
  simp! only [bV]
  refine ⟨_,mup M r (.lst (bF d6 x6)),fun b mo e=>?_,.inr ⟨t,_,rfl,sA,by rw [aG hrt.symm];exact ht,rfl⟩,q goals d6 x6 hgs (by omega) j1 j2 j3⟩
  by_cases hb:b=t
  ·subst hb;rw [aG hrt.symm,ht] at e;cases e
  ·unfold cJ;rw [aG hb];exact e
def oE (a b:Option Nat):Prop:=b=none\/∃ x y,a=some x/\b=some y/\x<=y
theorem oE.refl (a:Option Nat):oE a a:=by
 cases a with
 | none=>exact .inl rfl
 | some x=>exact .inr ⟨x,x,rfl,rfl,Nat.le_refl _⟩
theorem B3 {a a':Option Nat} {R R':List (Option Nat)} (h:oE a a') (h':oE (dD R) (dD R')):oE (dD (a :: R)) (dD (a' :: R')):=by
 rcases h with rfl | ⟨x,y,rfl,rfl,hxy⟩
 ·exact .inl rfl
 ·rcases h' with e | ⟨p,q,e1,e2,hpq⟩
  ·exact .inl (by simp only [dD,e,Option.map_none])
  ·exact .inr ⟨x + p,y + q,by simp only [dD,e1,Option.map_some],by simp only [dD,e2,Option.map_some],by omega⟩
theorem JR {v:Option Nat} {R R':List (Option Nat)} (h':oE (dD R) (dD R')):oE (dD R) (dD (v :: R')):=by
 cases v with
 | none=>exact .inl rfl
 | some x =>
  rcases h' with e | ⟨p,q,e1,e2,hpq⟩
  ·exact .inl (by simp only [dD,e,Option.map_none])
  ·exact .inr ⟨p,x + q,e1,by simp only [dD,e2,Option.map_some],by omega⟩
theorem Cy (cs:List Str) (labs:List (List (Option Nat))) (l:List (Option Nat)):∀ goals,oE (dD (reachF cs labs goals)) (dD (reachF cs (labs++[l]) goals))
 | []=>oE.refl _
 | g :: goals=>by
  have ih:=Cy cs labs l goals
  unfold reachF at ih ⊢
  rw [List.filterMap_cons,List.filterMap_cons]
  by_cases h:g.1 < labs.length
  ·have e1:eT cs labs g=some (tS (labs[g.1]?.getD []) (hZ cs g.2)):=by unfold eT;rw [if_pos h]
   have e2:eT cs (labs++[l]) g=some (tS (labs[g.1]?.getD []) (hZ cs g.2)):=by unfold eT;rw [if_pos (by rw [List.length_append];omega),List.getElem?_append_left h]
   rw [e1,e2]
   exact B3 (oE.refl _) ih
  ·have e1:eT cs labs g=none:=by unfold eT;rw [if_neg h]
   rw [e1]
   cases h2:eT cs (labs++[l]) g with
   | none=>exact ih
   | some v=>exact JR ih
theorem Nm (cs:List Str) (ps:List Pt) (lds:List T3) (c:FS) (own:List (Option Nat)) (k:Option Str):oE c.1 (j5 cs ps lds c own k).1/\∃ l,(j5 cs ps lds c own k).2=c.2++[l]:=by
 cases k with
 | none=>exact ⟨oE.refl _,_,rfl⟩
 | some s =>
  refine ⟨?_,_,rfl⟩
  show oE c.1 (dD [c.1,tS own (hZ cs s)])
  cases h:c.1 with
  | none=>exact .inl rfl
  | some x =>
   cases h2:tS own (hZ cs s) with
   | none=>exact .inl rfl
   | some y=>exact .inr ⟨x,x + (y + 0),rfl,rfl,by omega⟩
theorem w5 {α β:Type}:∀ (l:List α) (m:List β) (i:Nat),l.zip (m.take i)=(l.zip m).take i
 | [],_,i=>by simp
 | _ :: _,[],i=>by simp
 | a :: l,b :: m,0=>by simp
 | a :: l,b :: m,i + 1=>by simp only [List.take_succ_cons,List.zip_cons_cons,w5 l m i]
theorem Rt (cs:List Str) (tls:List Tl) (ts:List Wt) (goals:List (Nat × Str)) (fr:List (Option Str)) (i:Nat):oE (uB cs tls ts goals (fr.take i)) (uB cs tls ts goals (fr.take (i + 1))):=by
 unfold uB
 generalize aN tls=ps
 generalize bO cs tls=lds
 generalize kJ cs tls=st
 rw [w5,w5]
 cases h:(ts.zip fr)[i]? with
 | none=>rw [List.take_add_one,h,Option.toList_none,List.append_nil];exact oE.refl _
 | some p =>
  rw [List.take_add_one,h,Option.toList_some,tB]
  generalize gU cs ps lds st ((ts.zip fr).take i)=c
  obtain ⟨h1,l,h2⟩:=Nm cs ps lds c (oV cs ps lds st c.2 p.1) p.2
  rw [h2]
  exact B3 h1 (Cy cs c.2 l goals)
theorem Nw (cs:List Str) (tls:List Tl) (ts:List Wt) (goals:List (Nat × Str)) (fr:List (Option Str)):oE (some 0) (uB cs tls ts goals fr):=by
 cases h:uB cs tls ts goals fr with
 | none=>exact .inl rfl
 | some x=>exact .inr ⟨0,x,rfl,rfl,Nat.zero_le _⟩
theorem E6 (cs:List Str) (ps:List Pt) (lds:List T3) (st:WT):∀ ts:List Wt,gU cs ps lds st (ts.zip (List.replicate ts.length none))=(some 0,lB cs ps lds st ts):=by
 have key:∀ (ts:List Wt) (acc:List (List (Option Nat))),(ts.zip (List.replicate ts.length (none:Option Str))).foldl (fun (c:FS) p=>j5 cs ps lds c (oV cs ps lds st c.2 p.1) p.2) (some 0,acc)=(some 0,ts.foldl (fun acc t=>acc++[oV cs ps lds st acc t]) acc):=by
  intro ts
  induction ts with
  | nil=>intro acc;rfl
  | cons t ts ih=>intro acc;rw [List.length_cons,List.replicate_succ,List.zip_cons_cons,List.foldl_cons,List.foldl_cons];exact ih _
 intro ts
 exact key ts []
def pN (cs:List Str) (labs:List (List (Option Nat))) (goals:List (Nat × Str)):List (Option Nat):=goals.map fun g=>tS (labs[g.1]?.getD []) (hZ cs g.2)
theorem AN {cs:List Str} {labs:List (List (Option Nat))}:∀ {goals:List (Nat × Str)},(∀ g∈goals,g.1 < labs.length)->reachF cs labs goals=pN cs labs goals
 | [],_=>rfl
 | g :: goals,h=>by
  have ih:=AN (cs:=cs) (labs:=labs) (goals:=goals) fun x hx=>h x (List.mem_cons_of_mem _ hx)
  unfold reachF pN at ih ⊢
  have e1:eT cs labs g=some (tS (labs[g.1]?.getD []) (hZ cs g.2)):=by unfold eT;rw [if_pos (h g List.mem_cons_self)]
  rw [List.filterMap_cons,e1,List.map_cons,ih]
theorem OD {cs:List Str} {tls:List Tl} {ts:List Wt} {goals:List (Nat × Str)} (hW:Ms ts) (hg:∀ g∈goals,g.1 < ts.length):uB cs tls ts goals (List.replicate ts.length none)=dD (pN cs (uX cs tls ts) goals):=by
 unfold uB
 rw [E6]
 have h1:=(vD (cs:=cs) (ps:=aN tls) (lds:=bO cs tls) (st:=kJ cs tls) hW.ok ts.length (Nat.le_refl _)).1
 rw [List.take_length] at h1
 rw [AN (by rw [h1];exact hg)]
 show (dD _).map (0 + ·)=_
 unfold uX
 cases dD (pN cs (lB cs (aN tls) (bO cs tls) (kJ cs tls) ts) goals) with
 | none=>rfl
 | some x=>simp
theorem Lj (n:Nat):(List.replicate n [U.non]).flatten=(List.replicate n (none:Option Str)).map lQ:=by
 induction n with
 | zero=>rfl
 | succ n ih=>rw [List.replicate_succ,List.flatten_cons,ih,List.replicate_succ];rfl
theorem K8 {α:Type} (l:List α) (j:Nat):gE l none (some (j:Int))=l.take j:=by
 unfold gE
 simp only [HT.bK]
 rw [if_neg (by omega)]
 simp
theorem Ll {cs:List Str} {n:Int} (h0:0<=n) (h1:n < (cs.length:Int) + 1):∃ k:Option Str,dP (U.non :: cs.map U.str) n=some (lQ k)/\∀ s,k=some s->s∈cs:=by
 by_cases h:n=0
 ·subst h;exact ⟨none,eL (j:=0) rfl,fun s e=>by cases e⟩
 ·have hlt:(n - 1).toNat < cs.length:=by omega
  refine ⟨some cs[(n - 1).toNat],?_,fun s e=>by cases e;exact List.getElem_mem hlt⟩
  have:=eL (xs:=U.non :: cs.map U.str) (j:=(n - 1).toNat + 1) (v:=.str cs[(n - 1).toNat]) (by rw [List.getElem?_cons_succ,List.getElem?_map,List.getElem?_eq_getElem hlt];rfl)
  rw [show (((n - 1).toNat + 1:Nat):Int)=n by omega] at this
  exact this
theorem any_none (l:List (Option Nat)):(bH l).any (fun u=>oW u U.non)=decide (dD l=none):=by
 cases h:(bH l).any (fun u=>oW u U.non) with
 | true=>rw [qO h];rfl
 | false=>obtain ⟨ns,s,_,_,e⟩:=oJ h;rw [e];rfl
def xV (Pt0:Addr):bG:=fun us M Q=>∃ ns:List Int,us=[.lst (ns.map .int)]/\ns.length<=63/\M Pt0=some (.tbl QT)/\Q (.bl true) M
theorem Qa {C Pt0:Addr} (F:cK K "law" "law" pB f fd) (cQ:mg "range"=none) (F3:mg "max"=none) (Gz:mg "min"=none) (bB:mg "len"=none) (eK:mg "tuple"=none) (pE:mg "sum"=none) (yZ:Callee P w K mg base 1 "_law_feed" Ib []) (aO:Callee P w K mg base 1 "_law_take" jW []) (HI:Callee P w K mg base 12 "_law_web" LZ []) (D9:Callee P w K mg base 7 "_law_table" IE []) (DY:Callee P w K mg base 2 "_law_goals" EA []) (tP:Callee P w K mg base 18 "front_price" (EH C Pt0) []) (Dd:Callee P w K mg base 18 "web_labels" (Ii C Pt0) []):fF P w K mg base kP 19 f fd ["script"] (cL K (xV Pt0)):=by
 refine Ow F gD (fun us M Q h=>by obtain ⟨x,rfl,_⟩:=h;rfl) (aE (dW (Mz cQ (aA aP (aA (dX Qq F3 (aA aP (aA (dX Ro Gz (aA aP (aA (dX dO bB (aA (uv 0) aB)) aB))) aB))) (aA aP aB)))) (aU (k:=1000) 1 gD.nd)
 (aE (aS 2 gD.nd (aK D9 (aA (aK yZ (aA (uv 0) (aA (uv 1) aB))) (aA aP aB))))
 (aE (aS 3 gD.nd (aK yZ (aA (uv 0) (aA (cG (own:=false) (uv 1) aP) aB))))
 (aE (aS 4 gD.nd (aK HI (aA (uv 3) (aA (cG (own:=false) aP (aK aO (aA (uv 3) (aA aP aB)))) (aA aP aB)))))
 (aE (aS 5 gD.nd (aK DY (aA (uv 3) (aA (uv 2) (aA (uv 4) aB)))))
 (aE (aS 6 gD.nd (cG (own:=false) (bZ (aA jO aB)) (aQ (uv 2) aP)))
 (aE (aS 7 gD.nd (sG pJ eK (aA (nJ false ["tree","some","feed"] 1 [6,3] (dS (uv 4)) (aU (k:=1) 0 (by dsimp only [bR];decide +kernel)) jJ (aQ (uv 1) (aK aO (aA (uv 2) (aA (dX dO bB (aA (uv 1) aB)) aB))))) aB)))
 (aE (aS 8 gD.nd aP)
 (aE (dW (nO cQ (aA (cG (own:=false) (dX dO bB (aA (uv 4) aB)) aP) aB)) (aU (k:=1000) 9 gD.nd)
 (aE (aS 10 gD.nd (aK tP (aA (uv 2) (aA (uv 4) (aA (uv 5) (aA (rR (own:=false) (uv 7) pK (pG (uv 9))) aB))))))
 (aE (cM (lW.pt (mZ (bW GW (uv 8) jO) (lV (bW oG (uv 10) jO))))
 (aL (bD Me))
 bQ)
 (aE (cM (lW.pt (mZ (bW oG (uv 8) jO) (mZ (bW oG (uv 10) jO) (lV (bW pD (uv 10) (uv 8))))))
 (aL (bD Me))
 bQ)
 (aL (aS 8 gD.nd (uv 10)))))))
 (aE (aS 11 gD.nd (aK Dd (aA (uv 2) (aA (uv 4) aB))))
 (aE (nB 12 gD.nd false ["number","cls","told_labels","table"] 2 [11,2] (dS (uv 5)) (jV (n:=2) (bN (aU (k:=2) 0 (by dsimp only [bR];decide +kernel)) (bN (aU (k:=2) 1 (by dsimp only [bR];decide +kernel)) iQ))) jJ (aQ (aQ (uv 2) (uv 0)) (lX (aQ (uv 3) aP) (aA (uv 1) aB))))
 (aE (aS 10 gD.nd (aK tP (aA (uv 2) (aA (uv 4) (aA (uv 5) (aA (Ox (bZ (aA jO aB)) (dX dO bB (aA (uv 4) aB))) aB))))))
 (aL (cM (lW.pt (BL (lW.pt (mZ (bW Lx jO (uv 12)) (lV (bW oG (uv 10) jO)))) (yK (lW.pt (mZ (bW ND jO (uv 12)) (lV (bW u6 (uv 10) (dX DB pE (aA (uv 12) aB)))))))))
 (aL (bD Me))
 bQ))))))))))))))
 (aL (bD Me))) ?_
 rintro us M Q ⟨ns,rfl,hl,hP,q⟩
 refine aI fun V hV=>?_
 generalize hj:(if (if (ns.length:Int) < 6 then (ns.length:Int) else 6) > 2 then (if (ns.length:Int) < 6 then (ns.length:Int) else 6) else 2)=j
 have hj8:0<=j/\j<=6:=by rw [<- hj];split <;> split <;> omega
 refine eA (S:=⟨none,j4 (half j)⟩) (M1:=M) (fun R r=>by simp! only [FH,List.length_map];rw [hj];exact ⟨hj8.1,by omega,r⟩)
  (fun i τ Mi=>∃ z1 z2 z3 z4 z5 z6 z7 z8 z9 z10 z11 z12:Option U,τ=[some (.lst (ns.map U.int)),z1,z2,z3,z4,z5,z6,z7,z8,z9,z10,z11,z12]/\Sub M Mi) ⟨none,none,none,none,none,none,none,none,none,none,none,none,rfl,Sub.refl M⟩ nk ?_ ?_
 ·rintro i0 xx τ Mi e ⟨z1,z2,z3,z4,z5,z6,z7,z8,z9,z10,z11,z12,rfl,hSub⟩
  obtain ⟨rfl,hi⟩:=wG e
  have hi4:i0<=4:=by unfold half at hi;omega
  have ei:((i0:Int) * 2)=((i0 * 2:Nat):Int):=by omega
  have ei2:((i0 * 2:Nat):Int) + 1=((i0 * 2 + 1:Nat):Int):=by omega
  rw [ei]
  simp! only [hName]
  refine aI fun V2 hV2=>?_
  simp! only [bC,hName]
  refine ⟨ns,i0 * 2,rfl,by omega,fun r0 d x hr0 hd hx hx2=>?_⟩
  simp! only [true_and]
  refine ⟨r0,d,x,3,rfl,aD,hd,hx,hx2,by omega,by omega,fun cs tls d1 x1 hT c1 c2 c3=>?_⟩
  rw [aV]
  have hS1:Sub M (mup Mi r0 (.lst (bF d1 x1))):=hSub.mup (by
   cases h:M r0 with
   | none=>rfl
   | some mo=>rw [hSub r0 mo h] at hr0;cases hr0)
  generalize mup Mi r0 (.lst (bF d1 x1))=M1 at *
  clear hSub hr0
  have hC:=hT.cls
  have hc1:1<=cs.length:=by
   cases h:cs with
   | nil=>exact absurd h hC.ne
   | cons a b=>simp
  have hc6:=hC.len
  subst hV2
  refine aI fun V2 hV2=>?_
  simp! only [bC,hName,ei2]
  refine ⟨ns,i0 * 2 + 1,rfl,by omega,fun r d x hr hd hx hx2=>?_⟩
  have hMr:M r=none:=by
   cases h:M r with
   | none=>rfl
   | some mo=>rw [hS1 r mo h] at hr;cases hr
  subst hV2
  refine aI fun V2 hV2=>?_
  simp! only [bC,hName]
  refine ⟨r,d,x,6,rfl,aD,hd,hx,hx2,by omega,by omega,fun n2 d2 x2 a2 b2 e1 e2 e3=>?_⟩
  rw [aV]
  simp! only [true_and]
  obtain ⟨m,hm2⟩:∃ m:Nat,1 + n2=(m:Int):=⟨(1 + n2).toNat,by omega⟩
  rw [hm2]
  refine ⟨r,d2,x2,m,2,rfl,aD,e1,e2,e3,by omega,by omega,fun ts d3 x3 htl hok f1 f2 f3=>?_⟩
  rw [aV]
  have hWb:Ms ts:=⟨by omega,fun i t h=>(hok i t h).1,fun t ht=>by
   obtain ⟨i,hi⟩:=List.getElem?_of_mem ht
   have:=(hok i t hi).2.1;omega⟩
  have ht1:1<=ts.length:=by omega
  have ht10:ts.length<=10:=by omega
  subst hV2
  refine aI fun V2 hV2=>?_
  simp! only [bC,hName]
  refine ⟨r,d3,x3,cs,tls,ts,rfl,aD,f1,f2,f3,hC,ht1,ht10,fun goals d4 x4 hgs hgl g1 g2 g3=>?_⟩
  rw [aV]
  have hgc:∀ g∈goals,g.2∈cs:=fun g hg=>(hgs g hg).1
  subst hV2
  refine aI fun V2 hV2=>?_
  simp! only [bC,hName,fE,aX,List.length_map]
  refine ⟨small (by omega),?_⟩
  subst hV2
  refine aI fun V2 hV2=>?_
  simp! only [bC,hName,List.length_map]
  refine ⟨by rw [List.length_map];exact small (by omega),fun D hD=>⟨fun i ys M'=>∃ (ks:List (Option Str)) (d' x':Int),ys=ks.map lQ/\ks.length=i/\(∀ s,some s∈ks->s∈cs)/\M'=mup (mup M1 r (.lst (bF d' x'))) D (.lst (ks.map lQ))/\0<=d'/\0<=x'/\x'<=2147484647,⟨[],d4,x4,rfl,rfl,(fun s h=>by cases h),rfl,g1,g2,g3⟩,?_,?_,?_⟩⟩
  ·rintro i ys M' ⟨ks,d',x',rfl,hks,hok2,rfl,_⟩
   exact ⟨(fun a e=>by cases e),aD,by rw [List.length_map];omega⟩
  ·rintro i y ys M' hy ⟨ks,d',x',rfl,hks,hok2,rfl,k1,k2,k3⟩
   have hDr:r≠D:=fun z=>by subst z;rw [aD] at hD;cases hD
   simp! only [hName,List.length_map]
   refine ⟨r,d',x',(cs.length:Int) + 1,by first | rfl | (push_cast;rfl),by rw [aG hDr,aD],k1,k2,k3,by omega,by omega,fun n5 d5 x5 a5 b5 l1 l2 l3=>?_⟩
   obtain ⟨k,hk,hkc⟩:=Ll (cs:=cs) a5 b5
   refine ⟨_,hk,?_⟩
   have e1:mup (mup (mup M1 r (.lst (bF d' x'))) D (.lst (ks.map lQ))) r (.lst (bF d5 x5)) D=some (.lst (ks.map lQ)):=by rw [aG (Ne.symm hDr),aD]
   refine ⟨e1,ks++[k],d5,x5,by rw [List.map_append];rfl,by rw [List.length_append,hks];rfl,fun s hs=>?_,?_,l1,l2,l3⟩
   ·rcases List.mem_append.mp hs with hs | hs
    ·exact hok2 s hs
    ·exact hkc s (List.mem_singleton.mp hs).symm
   ·rw [List.map_append]
    funext z
    by_cases z1:z=D
    ·subst z1;rw [aD,aD];rfl
    ·rw [aG z1,aG z1]
     by_cases z2:z=r
     ·subst z2;rw [aD,aD]
     ·rw [aG z2,aG z1,aG z2,aG z2]
  ·rintro ys M' ⟨ks,d',x',rfl,hks,hok2,rfl,k1,k2,k3⟩
   have hDr:r≠D:=fun z=>by subst z;rw [aD] at hD;cases hD
   have hMD:M1 D=none:=by rw [aG (Ne.symm hDr)] at hD;exact hD
   have hkl:ks.length=ts.length:=by rw [hks];exact List.length_map _
   refine ⟨mup M1 r (.lst (bF d' x')),(Sub.refl _).mup (by rw [aG (Ne.symm hDr)];exact hMD),by rw [aG (Ne.symm hDr)];exact hMD,?_⟩
   simp! only [true_and]
   have hS2:Sub M (mup M1 r (.lst (bF d' x'))):=hS1.mup hMr
   generalize mup M1 r (.lst (bF d' x'))=M2 at *
   have hP2:=hS2 _ _ hP
   clear hS1 hD
   subst hV2
   refine aI fun V2 hV2=>?_
   simp! only [bC,hName]
   subst hV2
   refine aI fun V2 hV2=>?_
   have en:((ts.length:Int) + 1)=((ts.length + 1:Nat):Int):=by push_cast;rfl
   refine eA (S:=⟨none,eF 0 (ts.length + 1)⟩) (M1:=M2) (fun R r=>by
     simp! only [List.length_map]
     rw [en]
     exact ⟨by omega,by omega,by rw [Int.toNat_natCast];exact r⟩)
    (fun i τ' M'=>∃ (L:Option Nat) (y9 y10:Option U),τ'=[some (U.lst (List.map U.int ns)),some (U.int ((i0 * 2:Nat):Int)),some (fE cs tls),some (U.ref r),some (pX ts),some (U.lst (List.map mH goals)),some (U.tup (U.non :: List.map U.str cs)),some (U.tup (List.map lQ ks)),some (oN L),y9,y10,z11,z12]/\M'=M2/\oE L (uB cs tls ts goals (ks.take i)))
    ⟨some 0,z9,z10,rfl,rfl,Nw _ _ _ _ _⟩ (fun i τ' M' _=>fun a e=>by cases e) ?_ ?_
   ·rintro i v τ' M' hi5 ⟨L,y9,y10,rfl,rfl,hle⟩
    obtain ⟨rfl,hik⟩:=iY hi5
    rw [show (0:Int) + (i:Int)=(i:Int) by omega]
    simp! only [hName]
    refine aI fun V3 hV3=>?_
    have hcut:gE (ks.map lQ) none (some (i:Int))=(ks.take i).map lQ:=by rw [zS,K8]
    simp! only [bC,hName,hcut]
    refine ⟨cs,tls,ts,goals,ks.take i,rfl,hT,hWb,hgc,by omega,fun s hs=>hok2 s (List.mem_of_mem_take hs),by rw [List.length_take];omega,hP2,?_⟩
    have hnx:=Rt cs tls ts goals ks i
    generalize uB cs tls ts goals (ks.take i)=fee at hle hnx ⊢
    subst hV3
    refine aI fun V3 hV3=>?_
    refine cB fun A B hA hB=>?_
    have goB:B M':=by
     subst hB
     simp only [cA]
     subst hV3
     refine aI fun V3 hV3=>?_
     refine cB fun A B hA hB=>?_
     have goB2:B M':=by
      subst hB
      simp only [cA]
      subst hV3
      simp! only [bC,hName]
      first | exact ⟨fee,_,_,rfl,hnx⟩ | exact ⟨fee,_,_,rfl,rfl,hnx⟩
     cases L with
     | none=>simp! only [oN];exact goB2
     | some l =>
      cases fee with
      | none=>simp! only [oN];exact goB2
      | some e =>
       have hlt:¬ (e:Int) < (l:Int):=by
        rcases hle with h | ⟨x,y,h1,h2,h3⟩
        ·cases h
        ·cases h1;cases h2;omega
       simp! only [oN,decide_eq_false hlt]
       exact goB2
    cases L with
    | none =>
     have hf:fee=none:=by
      rcases hle with h | ⟨x,y,h1,_⟩
      ·exact h
      ·cases h1
     subst hf
     simp! only [oN]
     exact goB
    | some l=>simp! only [oN];exact goB
   ·rintro τ' M' ⟨L,y9,y10,rfl,rfl,_⟩
    show V2 _ _
    subst hV2
    refine aI fun V2 hV2=>?_
    simp! only [bC,hName]
    refine ⟨cs,tls,ts,rfl,hT,hWb,hP2,?_⟩
    obtain ⟨w1,w2⟩:=vD (cs:=cs) (ps:=aN tls) (lds:=bO cs tls) (st:=kJ cs tls) hWb.ok ts.length (Nat.le_refl _)
    rw [List.take_length] at w1 w2
    have hfp:=OD (cs:=cs) (tls:=tls) (goals:=goals) hWb fun g hg=>(hgs g hg).2
    have w1:(uX cs tls ts).length=ts.length:=w1
    have w2:∀ l∈uX cs tls ts,l.length=cs.length:=w2
    generalize uX cs tls ts=labs at *
    subst hV2
    refine aI fun V2 hV2=>?_
    simp only [bC,hName]
    refine gS (S:=⟨none,goals.map mH⟩) (M1:=M') (bH (pN cs labs goals)) (fun R r=>by simp! only [true_and];exact r) (by simp [jD,pN]) (by rw [List.length_map];exact small (by omega)) (by intro a e;cases e) (fun i xx y hxx hy M' hS R r'=>?_) ?_
    ·rw [List.getElem?_map] at hxx
     rw [bH,pN,List.map_map,List.getElem?_map] at hy
     cases hg:goals[i]? with
     | none=>rw [hg] at hxx;cases hxx
     | some g =>
      rw [hg] at hxx hy;cases hxx;cases hy
      obtain ⟨hs,hlt⟩:=hgs g (List.mem_of_getElem? hg)
      obtain ⟨lb,hlb⟩:∃ lb,labs[g.1]?=some lb:=⟨_,List.getElem?_eq_getElem (by omega)⟩
      have hlen:=w2 lb (List.mem_of_getElem? hlb)
      obtain ⟨v,hv⟩:∃ v,lb[hZ cs g.2]?=some v:=⟨_,List.getElem?_eq_getElem (by have:=(pV hs).1;omega)⟩
      have hat1:dP (labs.map fT) (g.1:Int)=some (fT lb):=eL (by rw [List.getElem?_map,hlb];rfl)
      have hat2:=rW hv
      simp only [Function.comp,hlb,Option.getD_some,tS,hv] at r'
      simp! only [i5,iD,kM,hName,mH,hat1,fT,fE,aX,w4]
      refine ⟨⟨_,rfl⟩,rC hs ?_⟩
      simp! only [hat2]
      exact r'
    ·simp only [iH]
     subst hV2
     refine aI fun V2 hV2=>?_
     simp! only [bC,hName,pX,List.length_map,GP]
     refine ⟨by omega,by omega,by simp,by rw [Int.toNat_natCast];exact small (by omega),?_⟩
     rw [Int.toNat_natCast,Lj]
     refine ⟨cs,tls,ts,goals,List.replicate ts.length none,rfl,hT,hWb,hgc,by omega,fun s hs=>(by have:=(List.mem_replicate.mp hs).2;cases this),by rw [List.length_replicate];omega,hP2,?_⟩
     rw [hfp]
     subst hV2
     have hfl:=Ak (pN cs labs goals)
     have hany:=any_none (pN cs labs goals)
     refine cB fun A B hA hB=>?_
     have goB:B M':=by
      subst hB
      simp only [cA]
      exact ⟨_,_,_,_,_,_,_,_,_,_,_,_,rfl,hS2⟩
     cases hso:dD (pN cs labs goals) with
     | none =>
      rw [hso] at hany
      simp! only [jG,hfl,jA,hany,oN]
      exact goB
     | some s =>
      rw [hso] at hany
      have hany':(bH (pN cs labs goals)).any (fun u=>oW u U.non)=false:=hany
      obtain ⟨ns',s',q1,q2,q3⟩:=oJ hany'
      rw [hso] at q3
      cases q3
      simp! only [jG,hfl,jA,hany',oN,yM,q1,q2]
      exact goB
 ·rintro τ Mi ⟨z1,z2,z3,z4,z5,z6,z7,z8,z9,z10,z11,z12,rfl,hSub⟩
  show V _ _
  subst hV
  simp! only [bV]
  exact ⟨_,M,hSub,.inl rfl,q⟩
end
end K50
namespace K50
open PySem L2 U2
open PyProof.Rows in
theorem all_mk (Pt0:Addr) {cW fI fW:Addr} {xod xan yod yan:Option Addr} {xosl yosl:Array (Option Value)} {xoc xkV xdoc xpm xcdv xct yoc ykV ydoc ypm ycdv yct:Value} {l:PySem.W.OpenLaw} {w:World} {K:PySem.W.Frag} {h:Heap} {mg:Str->Option Value} {fa f0 f1 f2 f3 f4 f5 f6 f7 f8 f9 f10 f11 f12 f13 f14 f15 f16 f17 f18 f19 f20 f21 f22 f23 f24 f25 f26 f27 f28 f29 f30:Addr} (X:K.In h) (G:h.Ns mainGlobals mg) (hfa:mg "law"=some (.ref fa))
  {od0 an0:Option Addr} {sl0:Array (Option Value)} {oc0 kV0 dc0 pm0 cd0 ct0:Value}
  {od1 an1:Option Addr} {sl1:Array (Option Value)} {oc1 kV1 dc1 pm1 cd1 ct1:Value}
  {od2 an2:Option Addr} {sl2:Array (Option Value)} {oc2 kV2 dc2 pm2 cd2 ct2:Value}
  {od3 an3:Option Addr} {sl3:Array (Option Value)} {oc3 kV3 dc3 pm3 cd3 ct3:Value}
  {od4 an4:Option Addr} {sl4:Array (Option Value)} {oc4 kV4 dc4 pm4 cd4 ct4:Value}
  {od5 an5:Option Addr} {sl5:Array (Option Value)} {oc5 kV5 dc5 pm5 cd5 ct5:Value}
  {od6 an6:Option Addr} {sl6:Array (Option Value)} {oc6 kV6 dc6 pm6 cd6 ct6:Value}
  {od7 an7:Option Addr} {sl7:Array (Option Value)} {oc7 kV7 dc7 pm7 cd7 ct7:Value}
  {od8 an8:Option Addr} {sl8:Array (Option Value)} {oc8 kV8 dc8 pm8 cd8 ct8:Value}
  {od9 an9:Option Addr} {sl9:Array (Option Value)} {oc9 kV9 dc9 pm9 cd9 ct9:Value}
  {od10 an10:Option Addr} {sl10:Array (Option Value)} {oc10 kV10 dc10 pm10 cd10 ct10:Value}
  {od11 an11:Option Addr} {sl11:Array (Option Value)} {oc11 kV11 dc11 pm11 cd11 ct11:Value}
  {od12 an12:Option Addr} {sl12:Array (Option Value)} {oc12 kV12 dc12 pm12 cd12 ct12:Value}
  {od13 an13:Option Addr} {sl13:Array (Option Value)} {oc13 kV13 dc13 pm13 cd13 ct13:Value}
  {cd14:Addr} {od14 an14:Option Addr} {sl14:Array (Option Value)} {oc14 kV14 dc14 pm14 ct14:Value}
  {od15 an15:Option Addr} {sl15:Array (Option Value)} {oc15 kV15 dc15 pm15 cd15 ct15:Value}
  {od16 an16:Option Addr} {sl16:Array (Option Value)} {oc16 kV16 dc16 pm16 cd16 ct16:Value}
  {od17 an17:Option Addr} {sl17:Array (Option Value)} {oc17 kV17 dc17 pm17 cd17 ct17:Value}
  {od18 an18:Option Addr} {sl18:Array (Option Value)} {oc18 kV18 dc18 pm18 cd18 ct18:Value}
  {od19 an19:Option Addr} {sl19:Array (Option Value)} {oc19 kV19 dc19 pm19 cd19 ct19:Value}
  {od20 an20:Option Addr} {sl20:Array (Option Value)} {oc20 kV20 dc20 pm20 cd20 ct20:Value}
  {od21 an21:Option Addr} {sl21:Array (Option Value)} {oc21 kV21 dc21 pm21 cd21 ct21:Value}
  {od22 an22:Option Addr} {sl22:Array (Option Value)} {oc22 kV22 dc22 pm22 cd22 ct22:Value}
  {od23 an23:Option Addr} {sl23:Array (Option Value)} {oc23 kV23 dc23 pm23 cd23 ct23:Value}
  {od24 an24:Option Addr} {sl24:Array (Option Value)} {oc24 kV24 dc24 pm24 cd24 ct24:Value}
  {od25 an25:Option Addr} {sl25:Array (Option Value)} {oc25 kV25 dc25 pm25 cd25 ct25:Value}
  {od26 an26:Option Addr} {sl26:Array (Option Value)} {oc26 kV26 dc26 pm26 cd26 ct26:Value}
  {od27 an27:Option Addr} {sl27:Array (Option Value)} {oc27 kV27 dc27 pm27 cd27 ct27:Value}
  {od28 an28:Option Addr} {sl28:Array (Option Value)} {oc28 kV28 dc28 pm28 cd28 ct28:Value}
  {od29 an29:Option Addr} {sl29:Array (Option Value)} {oc29 kV29 dc29 pm29 cd29 ct29:Value}
  {od30 an30:Option Addr} {sl30:Array (Option Value)} {oc30 kV30 dc30 pm30 cd30 ct30:Value}
  (a0:PySem.W.nsIn K mainGlobals "parts_of"=some (some (.ref f0))) (l0:K.lookup f0=some ⟨oc0,od0,.func (PySem.W.fnOf "parts_of" "parts_of" (aZ j7) (aT j7) (aH j7) .none kV0 dc0 pm0 an0 cd0 ct0),sl0⟩) (c0:PySem.W.codeIn K cd0 "parts_of"=true) (k0:PySem.W.keepIn K (.ref f0)=true)
  (a1:PySem.W.nsIn K mainGlobals "places_of"=some (some (.ref f1))) (l1:K.lookup f1=some ⟨oc1,od1,.func (PySem.W.fnOf "places_of" "places_of" (aZ hJ) (aT hJ) (aH hJ) .none kV1 dc1 pm1 an1 cd1 ct1),sl1⟩) (c1:PySem.W.codeIn K cd1 "places_of"=true) (k1:PySem.W.keepIn K (.ref f1)=true)
  (a2:PySem.W.nsIn K mainGlobals "shape_at"=some (some (.ref f2))) (l2:K.lookup f2=some ⟨oc2,od2,.func (PySem.W.fnOf "shape_at" "shape_at" (aZ kC) (aT kC) (aH kC) .none kV2 dc2 pm2 an2 cd2 ct2),sl2⟩) (c2:PySem.W.codeIn K cd2 "shape_at"=true) (k2:PySem.W.keepIn K (.ref f2)=true)
  (a3:PySem.W.nsIn K mainGlobals "reckoned"=some (some (.ref f3))) (l3:K.lookup f3=some ⟨oc3,od3,.func (PySem.W.fnOf "reckoned" "reckoned" (aZ iZ) (aT iZ) (aH iZ) .none kV3 dc3 pm3 an3 cd3 ct3),sl3⟩) (c3:PySem.W.codeIn K cd3 "reckoned"=true) (k3:PySem.W.keepIn K (.ref f3)=true)
  (a4:PySem.W.nsIn K mainGlobals "lies_on_leaf"=some (some (.ref f4))) (l4:K.lookup f4=some ⟨oc4,od4,.func (PySem.W.fnOf "lies_on_leaf" "lies_on_leaf" (aZ fZ) (aT fZ) (aH fZ) .none kV4 dc4 pm4 an4 cd4 ct4),sl4⟩) (c4:PySem.W.codeIn K cd4 "lies_on_leaf"=true) (k4:PySem.W.keepIn K (.ref f4)=true)
  (a5:PySem.W.nsIn K mainGlobals "is_pass"=some (some (.ref f5))) (l5:K.lookup f5=some ⟨oc5,od5,.func (PySem.W.fnOf "is_pass" "is_pass" (aZ lS) (aT lS) (aH lS) .none kV5 dc5 pm5 an5 cd5 ct5),sl5⟩) (c5:PySem.W.codeIn K cd5 "is_pass"=true) (k5:PySem.W.keepIn K (.ref f5)=true)
  (a6:PySem.W.nsIn K mainGlobals "columns_of"=some (some (.ref f6))) (l6:K.lookup f6=some ⟨oc6,od6,.func (PySem.W.fnOf "columns_of" "columns_of" (aZ iT) (aT iT) (aH iT) .none kV6 dc6 pm6 an6 cd6 ct6),sl6⟩) (c6:PySem.W.codeIn K cd6 "columns_of"=true) (k6:PySem.W.keepIn K (.ref f6)=true)
  (a7:PySem.W.nsIn K mainGlobals "lower"=some (some (.ref f7))) (l7:K.lookup f7=some ⟨oc7,od7,.func (PySem.W.fnOf "lower" "lower" (aZ pF) (aT pF) (aH pF) .none kV7 dc7 pm7 an7 cd7 ct7),sl7⟩) (c7:PySem.W.codeIn K cd7 "lower"=true) (k7:PySem.W.keepIn K (.ref f7)=true)
  (a8:PySem.W.nsIn K mainGlobals "pass_leads"=some (some (.ref f8))) (l8:K.lookup f8=some ⟨oc8,od8,.func (PySem.W.fnOf "pass_leads" "pass_leads" (aZ iL) (aT iL) (aH iL) .none kV8 dc8 pm8 an8 cd8 ct8),sl8⟩) (c8:PySem.W.codeIn K cd8 "pass_leads"=true) (k8:PySem.W.keepIn K (.ref f8)=true)
  (a9:PySem.W.nsIn K mainGlobals "with_passes"=some (some (.ref f9))) (l9:K.lookup f9=some ⟨oc9,od9,.func (PySem.W.fnOf "with_passes" "with_passes" (aZ gP) (aT gP) (aH gP) .none kV9 dc9 pm9 an9 cd9 ct9),sl9⟩) (c9:PySem.W.codeIn K cd9 "with_passes"=true) (k9:PySem.W.keepIn K (.ref f9)=true)
  (a10:PySem.W.nsIn K mainGlobals "leaf_prices"=some (some (.ref f10))) (l10:K.lookup f10=some ⟨oc10,od10,.func (PySem.W.fnOf "leaf_prices" "leaf_prices" (aZ gL) (aT gL) (aH gL) .none kV10 dc10 pm10 an10 cd10 ct10),sl10⟩) (c10:PySem.W.codeIn K cd10 "leaf_prices"=true) (k10:PySem.W.keepIn K (.ref f10)=true)
  (a11:PySem.W.nsIn K mainGlobals "sign_prices"=some (some (.ref f11))) (l11:K.lookup f11=some ⟨oc11,od11,.func (PySem.W.fnOf "sign_prices" "sign_prices" (aZ gM) (aT gM) (aH gM) .none kV11 dc11 pm11 an11 cd11 ct11),sl11⟩) (c11:PySem.W.codeIn K cd11 "sign_prices"=true) (k11:PySem.W.keepIn K (.ref f11)=true)
  (a12:PySem.W.nsIn K mainGlobals "prices_of_sums"=some (some (.ref f12))) (l12:K.lookup f12=some ⟨oc12,od12,.func (PySem.W.fnOf "prices_of_sums" "prices_of_sums" (aZ eU) (aT eU) (aH eU) .none kV12 dc12 pm12 an12 cd12 ct12),sl12⟩) (c12:PySem.W.codeIn K cd12 "prices_of_sums"=true) (k12:PySem.W.keepIn K (.ref f12)=true)
  (a13:PySem.W.nsIn K mainGlobals "known_prices"=some (some (.ref f13))) (l13:K.lookup f13=some ⟨oc13,od13,.func (PySem.W.fnOf "known_prices" "known_prices" (aZ fY) (aT fY) (aH fY) .none kV13 dc13 pm13 an13 cd13 ct13),sl13⟩) (c13:PySem.W.codeIn K cd13 "known_prices"=true) (k13:PySem.W.keepIn K (.ref f13)=true)
  (a14:PySem.W.nsIn K mainGlobals "tree_label"=some (some (.ref f14))) (l14:K.lookup f14=some ⟨oc14,od14,.func (PySem.W.fnOf "tree_label" "tree_label" (aZ eE) (aT eE) (aH eE) .none kV14 dc14 pm14 an14 (.ref cd14) ct14),sl14⟩) (c14:PySem.W.codeIn K (.ref cd14) "tree_label"=true) (k14:PySem.W.keepIn K (.ref f14)=true)
  (q14:PySem.W.codeHdIn K cd14 Pt0=true)
  (a15:PySem.W.nsIn K mainGlobals "web_labels"=some (some (.ref f15))) (l15:K.lookup f15=some ⟨oc15,od15,.func (PySem.W.fnOf "web_labels" "web_labels" (aZ iR) (aT iR) (aH iR) .none kV15 dc15 pm15 an15 cd15 ct15),sl15⟩) (c15:PySem.W.codeIn K cd15 "web_labels"=true) (k15:PySem.W.keepIn K (.ref f15)=true)
  (a16:PySem.W.nsIn K mainGlobals "total"=some (some (.ref f16))) (l16:K.lookup f16=some ⟨oc16,od16,.func (PySem.W.fnOf "total" "total" (aZ pH) (aT pH) (aH pH) .none kV16 dc16 pm16 an16 cd16 ct16),sl16⟩) (c16:PySem.W.codeIn K cd16 "total"=true) (k16:PySem.W.keepIn K (.ref f16)=true)
  (a17:PySem.W.nsIn K mainGlobals "kept_label"=some (some (.ref f17))) (l17:K.lookup f17=some ⟨oc17,od17,.func (PySem.W.fnOf "kept_label" "kept_label" (aZ iJ) (aT iJ) (aH iJ) .none kV17 dc17 pm17 an17 cd17 ct17),sl17⟩) (c17:PySem.W.codeIn K cd17 "kept_label"=true) (k17:PySem.W.keepIn K (.ref f17)=true)
  (a18:PySem.W.nsIn K mainGlobals "behind_choice"=some (some (.ref f18))) (l18:K.lookup f18=some ⟨oc18,od18,.func (PySem.W.fnOf "behind_choice" "behind_choice" (aZ fK) (aT fK) (aH fK) .none kV18 dc18 pm18 an18 cd18 ct18),sl18⟩) (c18:PySem.W.codeIn K cd18 "behind_choice"=true) (k18:PySem.W.keepIn K (.ref f18)=true)
  (a19:PySem.W.nsIn K mainGlobals "state_price"=some (some (.ref f19))) (l19:K.lookup f19=some ⟨oc19,od19,.func (PySem.W.fnOf "state_price" "state_price" (aZ gQ) (aT gQ) (aH gQ) .none kV19 dc19 pm19 an19 cd19 ct19),sl19⟩) (c19:PySem.W.codeIn K cd19 "state_price"=true) (k19:PySem.W.keepIn K (.ref f19)=true)
  (a20:PySem.W.nsIn K mainGlobals "front_price"=some (some (.ref f20))) (l20:K.lookup f20=some ⟨oc20,od20,.func (PySem.W.fnOf "front_price" "front_price" (aZ gN) (aT gN) (aH gN) .none kV20 dc20 pm20 an20 cd20 ct20),sl20⟩) (c20:PySem.W.codeIn K cd20 "front_price"=true) (k20:PySem.W.keepIn K (.ref f20)=true)
  (a21:PySem.W.nsIn K mainGlobals "_law_feed"=some (some (.ref f21))) (l21:K.lookup f21=some ⟨oc21,od21,.func (PySem.W.fnOf "_law_feed" "_law_feed" (aZ jY) (aT jY) (aH jY) .none kV21 dc21 pm21 an21 cd21 ct21),sl21⟩) (c21:PySem.W.codeIn K cd21 "_law_feed"=true) (k21:PySem.W.keepIn K (.ref f21)=true)
  (a22:PySem.W.nsIn K mainGlobals "_law_take"=some (some (.ref f22))) (l22:K.lookup f22=some ⟨oc22,od22,.func (PySem.W.fnOf "_law_take" "_law_take" (aZ j8) (aT j8) (aH j8) .none kV22 dc22 pm22 an22 cd22 ct22),sl22⟩) (c22:PySem.W.codeIn K cd22 "_law_take"=true) (k22:PySem.W.keepIn K (.ref f22)=true)
  (a23:PySem.W.nsIn K mainGlobals "_law_unlike"=some (some (.ref f23))) (l23:K.lookup f23=some ⟨oc23,od23,.func (PySem.W.fnOf "_law_unlike" "_law_unlike" (aZ iP) (aT iP) (aH iP) .none kV23 dc23 pm23 an23 cd23 ct23),sl23⟩) (c23:PySem.W.codeIn K cd23 "_law_unlike"=true) (k23:PySem.W.keepIn K (.ref f23)=true)
  (a24:PySem.W.nsIn K mainGlobals "_law_inner"=some (some (.ref f24))) (l24:K.lookup f24=some ⟨oc24,od24,.func (PySem.W.fnOf "_law_inner" "_law_inner" (aZ g0) (aT g0) (aH g0) .none kV24 dc24 pm24 an24 cd24 ct24),sl24⟩) (c24:PySem.W.codeIn K cd24 "_law_inner"=true) (k24:PySem.W.keepIn K (.ref f24)=true)
  (a25:PySem.W.nsIn K mainGlobals "_law_pattern"=some (some (.ref f25))) (l25:K.lookup f25=some ⟨oc25,od25,.func (PySem.W.fnOf "_law_pattern" "_law_pattern" (aZ gK) (aT gK) (aH gK) .none kV25 dc25 pm25 an25 cd25 ct25),sl25⟩) (c25:PySem.W.codeIn K cd25 "_law_pattern"=true) (k25:PySem.W.keepIn K (.ref f25)=true)
  (a26:PySem.W.nsIn K mainGlobals "_law_table"=some (some (.ref f26))) (l26:K.lookup f26=some ⟨oc26,od26,.func (PySem.W.fnOf "_law_table" "_law_table" (aZ jH) (aT jH) (aH jH) .none kV26 dc26 pm26 an26 cd26 ct26),sl26⟩) (c26:PySem.W.codeIn K cd26 "_law_table"=true) (k26:PySem.W.keepIn K (.ref f26)=true)
  (a27:PySem.W.nsIn K mainGlobals "_law_tree"=some (some (.ref f27))) (l27:K.lookup f27=some ⟨oc27,od27,.func (PySem.W.fnOf "_law_tree" "_law_tree" (aZ i7) (aT i7) (aH i7) .none kV27 dc27 pm27 an27 cd27 ct27),sl27⟩) (c27:PySem.W.codeIn K cd27 "_law_tree"=true) (k27:PySem.W.keepIn K (.ref f27)=true)
  (a28:PySem.W.nsIn K mainGlobals "_law_web"=some (some (.ref f28))) (l28:K.lookup f28=some ⟨oc28,od28,.func (PySem.W.fnOf "_law_web" "_law_web" (aZ lR) (aT lR) (aH lR) .none kV28 dc28 pm28 an28 cd28 ct28),sl28⟩) (c28:PySem.W.codeIn K cd28 "_law_web"=true) (k28:PySem.W.keepIn K (.ref f28)=true)
  (a29:PySem.W.nsIn K mainGlobals "_law_goals"=some (some (.ref f29))) (l29:K.lookup f29=some ⟨oc29,od29,.func (PySem.W.fnOf "_law_goals" "_law_goals" (aZ jI) (aT jI) (aH jI) .none kV29 dc29 pm29 an29 cd29 ct29),sl29⟩) (c29:PySem.W.codeIn K cd29 "_law_goals"=true) (k29:PySem.W.keepIn K (.ref f29)=true)
  (a30:PySem.W.nsIn K mainGlobals "law"=some (some (.ref f30))) (l30:K.lookup f30=some ⟨oc30,od30,.func (PySem.W.fnOf "law" "law" (aZ pB) (aT pB) (aH pB) .none kV30 dc30 pm30 an30 cd30 ct30),sl30⟩) (c30:PySem.W.codeIn K cd30 "law"=true) (k30:PySem.W.keepIn K (.ref f30)=true)
  {dt0:Addr} (ta0:PySem.W.nsIn K mainGlobals "SIGNS"=some (some (.ref dt0))) (tb0:KTD.tabLook KTD.flatLooks (fun b=>K.lookup b) dt0 (Ai cR)=true) (tc0:KTD.hashesOf (fun b=>K.lookup b) dt0=(Ai cR).map fun p=>(PySem.strKind l.prog w).hash p.1)
  (z0:PySem.W.nsIn K mainGlobals "len"=some none)
  (z1:PySem.W.nsIn K mainGlobals "max"=some none)
  (z2:PySem.W.nsIn K mainGlobals "min"=some none)
  (z3:PySem.W.nsIn K mainGlobals "range"=some none)
  (z4:PySem.W.nsIn K mainGlobals "enumerate"=some none)
  (z5:PySem.W.nsIn K mainGlobals "list"=some none)
  (z6:PySem.W.nsIn K mainGlobals "tuple"=some none)
  (z7:PySem.W.nsIn K mainGlobals "sum"=some none)
  (z8:PySem.W.nsIn K mainGlobals "zip"=some none)
  (x1:PySem.W.nsIn K mainGlobals "Wiring"=some (some (.ref cW)))
  (x2:PySem.W.plainGet K cW Str.empty=true)
  (x3:PySem.W.hasDictIn K cW=true)
  (x4:PySem.W.plainOver K cW=true)
  (x5:PySem.W.findIn K (.ref cW) "__setattr__"=some (some (.builtin "object.__setattr__")))
  (x6:PySem.W.findIn K (.ref cW) "classes"=some none)
  (x7:PySem.W.findIn K (.ref cW) "columns"=some none)
  (x8:PySem.W.findIn K (.ref cW) "leads"=some none)
  (x9:PySem.W.findIn K (.ref cW) "leaf_rules"=some none)
  (x10:PySem.W.findIn K (.ref cW) "sign_rules"=some none)
  (x11:PySem.W.findIn K (.ref cW) "wire"=some (some (.ref fW)))
  (x12:PySem.W.isFn K (.ref fW)=true)
  (x13:PySem.W.keepIn K (.ref fW)=true)
  (x14:PySem.W.makesIn K cW=true)
  (x15:PySem.W.findIn K (.ref cW) "__init__"=some (some (.ref fI)))
  (x16:PySem.W.isFn K (.ref fI)=true)
  (x17:PySem.W.keepIn K (.ref cW)=true)
  (x18:K.lookup fI=some ⟨xoc,xod,.func (PySem.W.fnOf "__init__" "Wiring.__init__" (aZ gR) (aT gR) (aH gR) .none xkV xdoc xpm xan xcdv xct),xosl⟩)
  (x19:PySem.W.codeIn K xcdv "Wiring.__init__"=true)
  (x20:PySem.W.keepIn K (.ref fI)=true)
  (x21:K.lookup fW=some ⟨yoc,yod,.func (PySem.W.fnOf "wire" "Wiring.wire" (aZ gO) (aT gO) (aH gO) .none ykV ydoc ypm yan ycdv yct),yosl⟩)
  (x22:PySem.W.codeIn K ycdv "Wiring.wire"=true)
  (x23:(K.lookup dt0).isSome=true)
  : ∃ fd:FuncData,(∀ (s:Shared) (v:Value),BindsTo s fd ⟨[v],[]⟩ [("script",v)])/\∀ base:Heap,K.In base->base.Ns mainGlobals mg->gJ base mg->fF l.prog w K mg base kP 19 fa fd ["script"] (cL K (xV Pt0)):=by
 have e:=hfa.symm.trans (PySem.W.mg_of X G a30)
 cases e
 have G1:=bX (st:=j7) l0 c0 k0
 have Gw:=PySem.W.mg_of X G a0
 have DN:=bX (st:=hJ) l1 c1 k1
 have DH:=PySem.W.mg_of X G a1
 have E5:=bX (st:=kC) l2 c2 k2
 have F8:=PySem.W.mg_of X G a2
 have FN:=bX (st:=iZ) l3 c3 k3
 have o6:=PySem.W.mg_of X G a3
 have Af:=bX (st:=fZ) l4 c4 k4
 have Aa:=PySem.W.mg_of X G a4
 have G4:=bX (st:=lS) l5 c5 k5
 have Ij:=PySem.W.mg_of X G a5
 have Cu:=bX (st:=iT) l6 c6 k6
 have CG:=PySem.W.mg_of X G a6
 have Ov:=bX (st:=pF) l7 c7 k7
 have Nz:=PySem.W.mg_of X G a7
 have CH:=bX (st:=iL) l8 c8 k8
 have DA:=PySem.W.mg_of X G a8
 have Br:=bX (st:=gP) l9 c9 k9
 have Bv:=PySem.W.mg_of X G a9
 have BB:=bX (st:=gL) l10 c10 k10
 have Bq:=PySem.W.mg_of X G a10
 have Bn:=bX (st:=gM) l11 c11 k11
 have BA:=PySem.W.mg_of X G a11
 have wR:=bX (st:=eU) l12 c12 k12
 have wU:=PySem.W.mg_of X G a12
 have AE:=bX (st:=fY) l13 c13 k13
 have Aj:=PySem.W.mg_of X G a13
 have Dc:=bX (st:=eE) l14 c14 k14
 have CV:=PySem.W.mg_of X G a14
 have Cp:=bX (st:=iR) l15 c15 k15
 have Ca:=PySem.W.mg_of X G a15
 have NW:=bX (st:=pH) l16 c16 k16
 have MC:=PySem.W.mg_of X G a16
 have CY:=bX (st:=iJ) l17 c17 k17
 have Dr:=PySem.W.mg_of X G a17
 have zC:=bX (st:=fK) l18 c18 k18
 have yB:=PySem.W.mg_of X G a18
 have Bo:=bX (st:=gQ) l19 c19 k19
 have BC:=PySem.W.mg_of X G a19
 have BE:=bX (st:=gN) l20 c20 k20
 have Bt:=PySem.W.mg_of X G a20
 have Gg:=bX (st:=jY) l21 c21 k21
 have Fy:=PySem.W.mg_of X G a21
 have Gd:=bX (st:=j8) l22 c22 k22
 have Gs:=PySem.W.mg_of X G a22
 have B1:=bX (st:=iP) l23 c23 k23
 have Cz:=PySem.W.mg_of X G a23
 have DX:=bX (st:=g0) l24 c24 k24
 have DL:=PySem.W.mg_of X G a24
 have Bu:=bX (st:=gK) l25 c25 k25
 have Bj:=PySem.W.mg_of X G a25
 have DO:=bX (st:=jH) l26 c26 k26
 have DQ:=PySem.W.mg_of X G a26
 have GN:=bX (st:=i7) l27 c27 k27
 have G0:=PySem.W.mg_of X G a27
 have HQ:=bX (st:=lR) l28 c28 k28
 have IA:=PySem.W.mg_of X G a28
 have D3:=bX (st:=jI) l29 c29 k29
 have DI:=PySem.W.mg_of X G a29
 have Rn:=bX (st:=pB) l30 c30 k30
 have Sw:=PySem.W.mg_of X G a30
 have eZ:=PySem.W.mg_of X G ta0
 have fB:jP l.prog w K dt0 cR:=tab_of (by decide +kernel) tb0 tc0
 have bB:=PySem.W.mg_none_of X G z0
 have F3:=PySem.W.mg_none_of X G z1
 have Gz:=PySem.W.mg_none_of X G z2
 have cQ:=PySem.W.mg_none_of X G z3
 have fC:=PySem.W.mg_none_of X G z4
 have mE:=PySem.W.mg_none_of X G z5
 have eK:=PySem.W.mg_none_of X G z6
 have pE:=PySem.W.mg_none_of X G z7
 have oZ:=PySem.W.mg_none_of X G z8
 refine ⟨PySem.W.fnOf "law" "law" (aZ pB) (aT pB) (aH pB) .none kV30 dc30 pm30 an30 cd30 ct30,fun s v=>.of_eq rfl,fun base _ _ hB=>?_⟩
 have c1:∀ base,Callee l.prog w K mg base 1 "parts_of" i6 []:=fun base=>D8 G1 Gw fB eZ
 have cW_:L2.fQ K cW:=⟨x2,x3,x4,x5⟩
 have gW:=PySem.W.mg_of X G x1
 have FW:cK K "wire" "Wiring.wire" gO fW _:=⟨⟨_,_,_,_,_,_,_,_,_,rfl,x21,x22⟩,x13⟩
 have FI:cK K "__init__" "Wiring.__init__" gR fI _:=⟨⟨_,_,_,_,_,_,_,_,_,rfl,x18,x19⟩,x20⟩
 have oS:∃ o,K.lookup dt0=some o:=Option.isSome_iff_exists.mp x23
 have b0:=yW DN DH fC (c1 base) 6
 have b1:=D0 E5 F8 (c1 base)
 have b2:=By Cu CG mE b0 b1
 have e0:∀ base,Callee l.prog w K mg base 1 "lower" pM []:=fun base=>Li Ov Nz
 have e1:=E1 (P:=l.prog) (w:=w) (base:=base) G4 Ij
 have e2:=BG CH DA bB cQ fC e1 (e0 base)
 have e3:=Nc FW ⟨x11,x12,x13⟩ cW_ x7 x9 x10 fB eZ (c1 base)
 have e4:=N3 FI ⟨x14,x15,x16,x17⟩ gW cW_ x6 x7 x8 x9 x10 fB eZ oS bB b2 e2 e1 e3
 have p1:∀ base,Callee l.prog w K mg base 2 "with_passes" (rB cW) []:=fun base=>Ay Br Bv cW_ x8 mE (e0 base)
 have p2:∀ base,Callee l.prog w K mg base 3 "leaf_prices" (zU cW) []:=fun base=>AD BB Bq cW_ x7 x9 bB (e0 base) (zE Af Aa) (p1 base)
 have p3:∀ base,Callee l.prog w K mg base 3 "prices_of_sums" (CD cW) []:=fun base=>wA wR wU cW_ x7 x10 bB oZ (e0 base) (p1 base)
 have p4:∀ base,Callee l.prog w K mg base 4 "sign_prices" (As cW) []:=fun base=>zN Bn BA cW_ x10 pE oZ (p3 base)
 have p5:∀ base,Callee l.prog w K mg base 4 "known_prices" (Av cW) []:=fun base=>Lc AE Aj cW_ x7 bB mE (p2 base)
 have t0:=BD Dc rfl CV q14 hB cW_ x6 bB eK o6 k3 (fun base fl s fl' s' _ A A'=>Dm FN o6 fB eZ A A' (c1 base) 10) (fun base _=>p5 base) (fun base _=>p4 base)
 have t1:=Bx Cp Ca e4 t0
 have s0:=KS (P:=l.prog) (w:=w) (base:=base) NW MC pE
 have s1:=NX CY Dr cW_ x7 x6 bB eK (p1 base)
 have s2:=Hf zC yB cW_ x6 s0 s1
 have s3:=Lu Bo BC cW_ x6 bB s0
 have s4:=KY BE Bt oZ e4 t0 s2 s3
 have l0:=NQ (P:=l.prog) (w:=w) (base:=base) Gd Gs
 have l1:=N4 (P:=l.prog) (w:=w) (base:=base) Gg Fy bB
 have l2:=HB B1 Cz cQ l0
 have l3:=Dq GN G0 bB l0 10
 have l4:=OS HQ IA cQ eK l0 l2 l3
 have l5:=Ba DX DL bB l0 4
 have l6:=Nd Bu Bj bB l0 l5
 have l7:=Na DO DQ bB cQ eK l0 l2 l6
 have l8:=Lg D3 DI bB cQ l0
 exact Qa Rn cQ F3 Gz bB eK pE l1 l0 l4 l7 l8 s4 t1
theorem Sq {K:PySem.W.Frag} {f c Pt:Addr} {od an:Option Addr} {sl:Array (Option Value)} {oc kV dc pm ct:Value} (n:K.lookup Pt=none) (a:PySem.W.nsIn K mainGlobals "tree_label"=some (some (.ref f))) (lk:K.lookup f=some ⟨oc,od,.func (PySem.W.fnOf "tree_label" "tree_label" (aZ eE) (aT eE) (aH eE) .none kV dc pm an (.ref c) ct),sl⟩) (q:PySem.W.codeHdIn K c Pt=true):K.lookup Pt=none/\∃ c,PySem.W.codeHdIn K c Pt=true:=⟨n,c,q⟩
theorem IP {K:PySem.W.Frag} {H:Hp} {a:Addr} {ns:List Int} {E:XK} (hl:ns.length<=63) (hS:eC K H a (ns.map V.int)) (hT:∀ p∈[(131:Addr)],H p=some (.tbl #[])):cL K (xV (131:Addr)) [.ref a] H (fun v _=>v=.bl true) E :=
 Pe (ts:=[((131:Addr),QT)]) hS hT (by decide +kernel) ⟨ns,rfl,hl,rfl,rfl⟩
theorem walk {l:PySem.W.OpenLaw} {q:Program} {loose:List Str} {XP:(Str->Option Value)->Heap->Prop} {YP:World->Heap->Prop} {d:DefRec} {K:Params->PySem.W.Frag} (hn:l.most=some 63) (hdf:d.params.defaults=[])
  (hY:∀ (w:World) (h:Heap),YP w h->(K w.params).In h/\∀ P∈[(131:Addr)],h.get? P=some (PySem.W.tabObj #[]))
  (hTK:∀ (w:World),∀ P∈[(131:Addr)],(K w.params).lookup P=none/\∃ c,PySem.W.codeHdIn (K w.params) c P=true)
  (F:∀ (w:World) (mg:Str->Option Value) (fa:Addr) (h:Heap),(K w.params).In h->h.Ns mainGlobals mg->mg d.name=some (.ref fa) ->
   ∃ fd:FuncData,(∀ (s:Shared) (u:Value),BindsTo s fd ⟨[u],[]⟩ [("script",u)])/\∀ base:Heap,(K w.params).In base->base.Ns mainGlobals mg->gJ base mg->fF l.prog w (K w.params) mg base kP 19 fa fd ["script"] (cL (K w.params) (xV (131:Addr)))) :
  PySem.W.WalkO q loose XP YP l.row.toRowW d [] (fun f vs=>PySem.call f vs) :=
 JS (n:=63) (k:=19) (x:="script") (ts:=[(131:Addr)]) (sp:=fun w=>cL (K w.params) (xV (131:Addr))) hn (by decide) hdf ⟨rfl,by decide,by decide⟩ hY hTK F (fun w H a ns hl _ hS hT=>IP hl hS hT)
end K50
namespace PySem.W.Fast
def tw10029514883512839325:=0
def tw10063103313641679852:=0
def tw10156773410296633105:=0
def tw102524713639951600:=0
def tw10343944472942102327:=0
def tw10417003288581516845:=0
def tw10582696886481871061:=0
def tw10700436446758993000:=0
def tw10767727671554999149:=0
def tw10783376659783399003:=0
def tw10783594792359874192:=0
def tw10793751450713561659:=0
def tw10960608315432530593:=0
def tw11034547281868714578:=0
def tw11394842840139451921:=0
def tw11682301003673796524:=0
def tw11719986430999884942:=0
def tw11752922535653379566:=0
def tw11781963766505700886:=0
def tw11896041927744706245:=0
def tw11937398142322188090:=0
def tw11997057069262386061:=0
def tw11998299476971504725:=0
def tw120426438421311355:=0
def tw12085707553400744703:=0
def tw12160197457781241543:=0
def tw12203106799897285574:=0
def tw12233954411554619018:=0
def tw12331214174755924986:=0
def tw12344350805578951913:=0
def tw12397901611971786616:=0
def tw1249444529318957068:=0
def tw1262238392737443628:=0
def tw12664387247577229858:=0
def tw1274444814221297091:=0
def tw12766290247702044434:=0
def tw1281533404370892556:=0
def tw13095584713805336345:=0
def tw13185840145977102369:=0
def tw13277564190358060580:=0
def tw13315338021919007184:=0
def tw13366887893912852571:=0
def tw13472816759056365179:=0
def tw13482949907772112519:=0
def tw13549496448097136156:=0
def tw13575086163977515194:=0
def tw13582888633500563186:=0
def tw13643104969271353969:=0
def tw13679922359980196255:=0
def tw13709855373564179923:=0
def tw13842017547540497586:=0
def tw13854629960512291537:=0
def tw13877926106824045422:=0
def tw13886629008748068521:=0
def tw13898000156994289795:=0
def tw13942859554033468138:=0
def tw14069854093868505416:=0
def tw14192670778257295507:=0
def tw14212593717669330621:=0
def tw14237339097876816358:=0
def tw14256491746671460847:=0
def tw14366270851546391094:=0
def tw14500111855393271306:=0
def tw14588876265348971316:=0
def tw14731391614924720647:=0
def tw14816352351916095927:=0
def tw15021430990837268327:=0
def tw15163689666698856692:=0
def tw15203694534261843483:=0
def tw15299880794088809702:=0
def tw15378096753175888492:=0
def tw15454397313649839623:=0
def tw15569858765864362317:=0
def tw15715411407655743114:=0
def tw15906278052827097484:=0
def tw15919281502600342623:=0
def tw15954089987794157546:=0
def tw15970348522152161281:=0
def tw16063828563043984444:=0
def tw16336286943215649824:=0
def tw16366562475863296966:=0
def tw16483337189976224440:=0
def tw16566686352502013421:=0
def tw16733923701443933087:=0
def tw16752737166886802034:=0
def tw16773789842633055331:=0
def tw16777774871792259862:=0
def tw16812519985193218854:=0
def tw16861889897751898178:=0
def tw16925063360121821210:=0
def tw16940987828542209075:=0
def tw16964673204195601573:=0
def tw16971994118373921606:=0
def tw17065229795800012027:=0
def tw17154455837704541416:=0
def tw17161363124694005756:=0
def tw17233302196000790122:=0
def tw17306621700717435994:=0
def tw17322487510330241415:=0
def tw17364720725863794982:=0
def tw17436236799331120338:=0
def tw17457570889191220758:=0
def tw17461662264736267692:=0
def tw17552559899942819043:=0
def tw17661925473426137908:=0
def tw17668310343955961155:=0
def tw1767409401048303481:=0
def tw17701443248845751850:=0
def tw1789709495463656445:=0
def tw17942537832598627146:=0
def tw18074056449921997656:=0
def tw18219992803769369811:=0
def tw18417751053530028809:=0
def tw1879743445875679300:=0
def tw1890591304817709887:=0
def tw1936704587079409592:=0
def tw1997888420377997319:=0
def tw2029750426836571878:=0
def tw2082160830221809905:=0
def tw2137773491876426160:=0
def tw2183796391230812015:=0
def tw2422990780804211529:=0
def tw2425448285065377532:=0
def tw2508139145435737350:=0
def tw2565378226822050066:=0
def tw2586550347946057792:=0
def tw261808047367366391:=0
def tw2652250146358669580:=0
def tw2751926794884312150:=0
def tw283986500164519993:=0
def tw2995298880735623767:=0
def tw3108849698825308114:=0
def tw3212676345941211544:=0
def tw3229869564930945331:=0
def tw3271069894831726537:=0
def tw33499496489685308:=0
def tw3355348152497026239:=0
def tw3385191435547798396:=0
def tw3385992863709316938:=0
def tw340766359737771561:=0
def tw3450168261521312498:=0
def tw3461975273002788311:=0
def tw3499083702358849225:=0
def tw3722260114866890274:=0
def tw3782467524191225743:=0
def tw3791154703580006183:=0
def tw3813162679515534309:=0
def tw3889840551802661858:=0
def tw3955168623757823136:=0
def tw4083079936571141145:=0
def tw4095703766078583890:=0
def tw4199269226481448570:=0
def tw4206638478820617618:=0
def tw4417583371034891455:=0
def tw444176285054580593:=0
def tw4455255859394075327:=0
def tw445881196676672064:=0
def tw4546423229946243409:=0
def tw4629438020663975399:=0
def tw4710206495011880851:=0
def tw4720926711918165277:=0
def tw4762945743323663810:=0
def tw4801348726676915179:=0
def tw4847043622940326211:=0
def tw4963516846522847622:=0
def tw5089162860271629485:=0
def tw5216389296954282469:=0
def tw527438182528524189:=0
def tw5326147399302514865:=0
def tw5451792877121955529:=0
def tw5553115567242471893:=0
def tw5673582321703396081:=0
def tw5725336188021831120:=0
def tw5767592634482764335:=0
def tw5914810260167690458:=0
def tw6125652874498500358:=0
def tw63515693085811996:=0
def tw6438983757773305305:=0
def tw6454698421198168181:=0
def tw6579750003082358071:=0
def tw6820134003042172340:=0
def tw6830004697150193516:=0
def tw7044008469349125490:=0
def tw7134533582389737615:=0
def tw7550582337660437563:=0
def tw7776939664358111959:=0
def tw785797500100844508:=0
def tw7904314359725554462:=0
def tw7905015201553865776:=0
def tw7921167379933335851:=0
def tw7974697254554068012:=0
def tw8061533612957319101:=0
def tw8062395175374902533:=0
def tw8071429543323444900:=0
def tw810955855453518635:=0
def tw8380905408146076471:=0
def tw8436140742518147955:=0
def tw8457282192991491859:=0
def tw8471897721581027955:=0
def tw8501805029231343731:=0
def tw8510765483372833521:=0
def tw8692874705170928502:=0
def tw8704933644974276139:=0
def tw8832070664759864152:=0
def tw8900286494755344912:=0
def tw8960242386502787285:=0
def tw8963979252210953537:=0
def tw8979751418031024909:=0
def tw9072633655567571964:=0
def tw9159209087154474974:=0
def tw9162585648121259950:=0
def tw9197387561674897125:=0
def tw9246453501669241456:=0
def tw9421574823299560841:=0
def tw9450201070708045571:=0
def tw9551326022730172625:=0
def tw9557079238541630004:=0
def tw9834067422459148520:=0
def tw9926135238320253458:=0
end PySem.W.Fast
open PySem PySem.W PyProof.Rows
set_option maxRecDepth 100000 in
set_option maxHeartbeats 0 in
theorem PySem.Challenge.cw_rowsmith_k50_whole_longer_fronts_cost_no_holds : PySem.Challenge.rw_rowsmith_k50_whole_longer_fronts_cost_no.Holds := by
 w_on;o_law;k_head;(case hw=>w_witness2)
 k_fill
 refine K50.walk (l:=PySem.Challenge.rw_rowsmith_k50_whole_longer_fronts_cost_no) rfl rfl (fun w h Y=>⟨PySem.W.km_in_of Y,PySem.W.km_tabs_of Y⟩) ?T ?F
 case T =>
  intro w P hP
  simp only [List.mem_cons,List.not_mem_nil,or_false] at hP
  rcases hP with rfl
  ·refine' K50.Sq ?tkn ?tka ?tkl ?tkq
   (case tkn=>kernel_rfl)
   (case tka=>k_is)
   (case tkl=>k_is)
   (case tkq=>kernel_rfl)
 case F =>
  intro w mg fa h KX G hmg
  refine' K50.all_mk (131:Addr) KX G hmg ?a0 ?l0 ?c0 ?k0 ?a1 ?l1 ?c1 ?k1 ?a2 ?l2 ?c2 ?k2 ?a3 ?l3 ?c3 ?k3 ?a4 ?l4 ?c4 ?k4 ?a5 ?l5 ?c5 ?k5 ?a6 ?l6 ?c6 ?k6 ?a7 ?l7 ?c7 ?k7 ?a8 ?l8 ?c8 ?k8 ?a9 ?l9 ?c9 ?k9 ?a10 ?l10 ?c10 ?k10 ?a11 ?l11 ?c11 ?k11 ?a12 ?l12 ?c12 ?k12 ?a13 ?l13 ?c13 ?k13 ?a14 ?l14 ?c14 ?k14 ?q14 ?a15 ?l15 ?c15 ?k15 ?a16 ?l16 ?c16 ?k16 ?a17 ?l17 ?c17 ?k17 ?a18 ?l18 ?c18 ?k18 ?a19 ?l19 ?c19 ?k19 ?a20 ?l20 ?c20 ?k20 ?a21 ?l21 ?c21 ?k21 ?a22 ?l22 ?c22 ?k22 ?a23 ?l23 ?c23 ?k23 ?a24 ?l24 ?c24 ?k24 ?a25 ?l25 ?c25 ?k25 ?a26 ?l26 ?c26 ?k26 ?a27 ?l27 ?c27 ?k27 ?a28 ?l28 ?c28 ?k28 ?a29 ?l29 ?c29 ?k29 ?a30 ?l30 ?c30 ?k30 ?ta0 ?tb0 ?tc0 ?z0 ?z1 ?z2 ?z3 ?z4 ?z5 ?z6 ?z7 ?z8 ?x1 ?x2 ?x3 ?x4 ?x5 ?x6 ?x7 ?x8 ?x9 ?x10 ?x11 ?x12 ?x13 ?x14 ?x15 ?x16 ?x17 ?x18 ?x19 ?x20 ?x21 ?x22 ?x23
  (case a0=>k_is)
  (case l0=>k_is)
  (case c0=>k_is)
  (case k0=>k_is)
  (case a1=>k_is)
  (case l1=>k_is)
  (case c1=>k_is)
  (case k1=>k_is)
  (case a2=>k_is)
  (case l2=>k_is)
  (case c2=>k_is)
  (case k2=>k_is)
  (case a3=>k_is)
  (case l3=>k_is)
  (case c3=>k_is)
  (case k3=>k_is)
  (case a4=>k_is)
  (case l4=>k_is)
  (case c4=>k_is)
  (case k4=>k_is)
  (case a5=>k_is)
  (case l5=>k_is)
  (case c5=>k_is)
  (case k5=>k_is)
  (case a6=>k_is)
  (case l6=>k_is)
  (case c6=>k_is)
  (case k6=>k_is)
  (case a7=>k_is)
  (case l7=>k_is)
  (case c7=>k_is)
  (case k7=>k_is)
  (case a8=>k_is)
  (case l8=>k_is)
  (case c8=>k_is)
  (case k8=>k_is)
  (case a9=>k_is)
  (case l9=>k_is)
  (case c9=>k_is)
  (case k9=>k_is)
  (case a10=>k_is)
  (case l10=>k_is)
  (case c10=>k_is)
  (case k10=>k_is)
  (case a11=>k_is)
  (case l11=>k_is)
  (case c11=>k_is)
  (case k11=>k_is)
  (case a12=>k_is)
  (case l12=>k_is)
  (case c12=>k_is)
  (case k12=>k_is)
  (case a13=>k_is)
  (case l13=>k_is)
  (case c13=>k_is)
  (case k13=>k_is)
  (case a14=>k_is)
  (case l14=>k_is)
  (case c14=>k_is)
  (case k14=>k_is)
  (case q14=>kernel_rfl)
  (case a15=>k_is)
  (case l15=>k_is)
  (case c15=>k_is)
  (case k15=>k_is)
  (case a16=>k_is)
  (case l16=>k_is)
  (case c16=>k_is)
  (case k16=>k_is)
  (case a17=>k_is)
  (case l17=>k_is)
  (case c17=>k_is)
  (case k17=>k_is)
  (case a18=>k_is)
  (case l18=>k_is)
  (case c18=>k_is)
  (case k18=>k_is)
  (case a19=>k_is)
  (case l19=>k_is)
  (case c19=>k_is)
  (case k19=>k_is)
  (case a20=>k_is)
  (case l20=>k_is)
  (case c20=>k_is)
  (case k20=>k_is)
  (case a21=>k_is)
  (case l21=>k_is)
  (case c21=>k_is)
  (case k21=>k_is)
  (case a22=>k_is)
  (case l22=>k_is)
  (case c22=>k_is)
  (case k22=>k_is)
  (case a23=>k_is)
  (case l23=>k_is)
  (case c23=>k_is)
  (case k23=>k_is)
  (case a24=>k_is)
  (case l24=>k_is)
  (case c24=>k_is)
  (case k24=>k_is)
  (case a25=>k_is)
  (case l25=>k_is)
  (case c25=>k_is)
  (case k25=>k_is)
  (case a26=>k_is)
  (case l26=>k_is)
  (case c26=>k_is)
  (case k26=>k_is)
  (case a27=>k_is)
  (case l27=>k_is)
  (case c27=>k_is)
  (case k27=>k_is)
  (case a28=>k_is)
  (case l28=>k_is)
  (case c28=>k_is)
  (case k28=>k_is)
  (case a29=>k_is)
  (case l29=>k_is)
  (case c29=>k_is)
  (case k29=>k_is)
  (case a30=>k_is)
  (case l30=>k_is)
  (case c30=>k_is)
  (case k30=>k_is)
  (case ta0=>k_is)
  (case tb0=>kernel_rfl)
  (case tc0=>kernel_rfl)
  (case z0=>k_is)
  (case z1=>k_is)
  (case z2=>k_is)
  (case z3=>k_is)
  (case z4=>k_is)
  (case z5=>k_is)
  (case z6=>k_is)
  (case z7=>k_is)
  (case z8=>k_is)
  (case x1=>k_is)
  (case x2=>k_is)
  (case x3=>k_is)
  (case x4=>k_is)
  (case x5=>k_is)
  (case x6=>k_is)
  (case x7=>k_is)
  (case x8=>k_is)
  (case x9=>k_is)
  (case x10=>k_is)
  (case x11=>k_is)
  (case x12=>k_is)
  (case x13=>k_is)
  (case x14=>k_is)
  (case x15=>k_is)
  (case x16=>k_is)
  (case x17=>k_is)
  (case x18=>k_is)
  (case x19=>k_is)
  (case x20=>k_is)
  (case x21=>k_is)
  (case x22=>k_is)
  (case x23=>kernel_rfl)
#print axioms PySem.Challenge.cw_rowsmith_k50_whole_longer_fronts_cost_no_holds