import PyProof.Rows.All
import Wide.All
import OpenK.AllK
import Wide.FinOn
import Lean
import PyProof.EqAt
import PyProof.EqKinds
import PyProof.TupleCall
import PySem.Challenge.RW_rowsmith_k36_one_row
import PyProof.TupleKey
import KE.KRevIter
import PyProof.ListRange
import PyProof.CollectIter
import PyProof.Rows.SortWalk
import PyProof.ListMulRoad
import PyProof.AutoListH
import PyProof.Rows.SortStr
import PyProof.FactsAll.tuple_2
import PyProof.TupleOfGen
import PyProof.EnumMake
import KE.KLam
import KE.KNestM
import PyProof.Rows.SortShellK
import KE.KDictSum
import PyProof.ExcInit
import PyProof.InstStoreFacts
import PyProof.RulesAs
import PyProof.NsDelKeeps
import PyProof.ExcBaseAll.ValueError
import PyProof.ExcArgsOwn
import KE.KIsAll
import PyProof.Rows.SumAny
import PyProof.Rows.SetFrom
set_option linter.all false
set_option maxRecDepth 100000
set_option maxHeartbeats 4000000
namespace PySem
open Sem (wp)
section
variable {prog:Program} {w:World} {K:Type} [DecidableEq K] (knd:KeyKind prog w K)
def dB (h:Heap) (x:List K × K) (a:Addr):Prop:=∃ o n b v,h.get? a=some o/\o.cls=.type "tuple"/\o.data=.seq #[.ref b,v] n/\IsTupleKey knd h x.1 b/\knd.is x.2 v=true
variable {knd}
theorem dB.typeIs {s:Shared} {x:List K × K} {a:Addr} (p:dB knd s.heap x a):s.TypeIs (.ref a) "tuple":=let ⟨o,_,_,_,ho,hc,_⟩:=p;⟨o,ho,hc⟩
theorem dB.inj {h:Heap} {a:Addr} {x y:List K × K} (hx:dB knd h x a) (hy:dB knd h y a):x=y:=by
 obtain ⟨o,n,b,v,ho,_,hd,h1,h2⟩:=hx
 obtain ⟨o',n',b',v',ho',_,hd',h1',h2'⟩:=hy
 obtain rfl:o=o':=Option.some.inj (ho.symm.trans ho')
 rw [hd] at hd'
 injection hd' with e _
 have e1:(.ref b:Value)=.ref b'/\v=v':=by simpa using e
 obtain ⟨e2,rfl⟩:=e1
 cases e2
 exact Prod.ext (h1.inj h1') (knd.inj _ _ _ h2 h2')
theorem dB.keeps {h h':Heap} {x:List K × K} {a d:Addr} {o:Obj} {es ep} (p:dB knd h x a) (ho:h.get? d=some o) (hd:o.data=.dict es ep) (hs:Heap.SameBut d h h'):dB knd h' x a:=by
 obtain ⟨o',n,b,v,ho',hc,hd',h1,h2⟩:=p
 have hne:a≠d:=by
  rintro rfl
  obtain rfl:o'=o:=Option.some.inj (ho'.symm.trans ho)
  rw [hd] at hd';exact nomatch hd'
 exact ⟨o',n,b,v,(hs.2 a hne).trans ho',hc,hd',h1.keeps ho hd hs,h2⟩
def qS (knd:KeyKind prog w K) (x:List K × K):Int:=reduceHash (Builtin.Tuple.tupleHashOf [tupleKeyHash knd x.1,knd.hash x.2])
variable {A:Around} {E:Value->Shared->Prop} {s:Shared}
theorem vH {x:List K × K} {a:Addr} {Q:Int->Shared->Prop} (hu:A.units + 1 < cLine) (hk:dB knd s.heap x a) (h:Q (qS knd x) { s with toks:=s.toks + (x.1.length + 3) }) :
  wpAny (model prog w) A (pyHash (.ref a)) Q E s:=by
 have hT:=hk.typeIs
 obtain ⟨o,n,b,v,ho,_,hd,h1,h2⟩:=hk
 unfold pyHash
 first | unfold pyHashByItsType | skip
 first | refine wpAny_bind (wpAny_cRoomFor_or (.inr (by omega)) ?_) | skip
 refine wpAny_bind (wpAny_specialOf hT F.slot_tuple_hash.lookup ?_)
 show wpAny _ _ (if (some (Value.builtin "tuple.__hash__") == some Value.none)=true then _ else _) Q E s
 rw [if_neg (by rw [beq_builtin_none];exact Bool.false_ne_true)]
 refine wpAny_bind (wpAny_specialOf hT F.slot_tuple_hash.lookup ?_)
 show wpAny _ _ (callSpecialIfBoundUnlessNone? (.ref a) "__hash__" _ >>= _) Q E s
 refine wpAny_bind (wpAny_callSpecialIfBoundUnlessNone?_slot hT F.slot_tuple_hash (wpAny_call_entry F.slot_tuple_hash hT F.entry_tuple_hash ?_ (F.args_tuple_hash_1 _)))
 show wpAny _ _ (Builtin.Tuple.tupleItemsOf (.ref a) >>= _) _ _ s
 refine wpAny_bind (wpAny_tupleItemsOf ho hd ?_)
 refine wpAny_bind ?_
 rw [<- Array.forIn_toList]
 refine wpAny_forIn_list _
  (fun rest (r:Array Int) s'=>(rest=[.ref b,v]/\r.toList=[]/\s'=s)\/(rest=[v]/\r.toList=[tupleKeyHash knd x.1]/\s'={ s with toks:=s.toks + (x.1.length + 1) })\/(rest=[]/\r.toList=[tupleKeyHash knd x.1,knd.hash x.2]/\s'={ s with toks:=s.toks + (x.1.length + 1) + 1 }))
  _ ?_ ?_ _ _ (.inl ⟨rfl,rfl,rfl⟩)
 ·rintro y rest r s' (⟨hr,hb,rfl⟩ | ⟨hr,hb,rfl⟩ | ⟨hr,_⟩)
  ·cases hr
   refine wpAny_bind (wpAny_pyHash_tuple (by first | exact hu | (show A.units + 1 < cLine;exact hu)) h1 ?_)
   first
    | exact wpAny_pure (.inr (.inl ⟨rfl,by simp [hb],rfl⟩))
    | exact wpAny_bind (wpAny_pure (wpAny_pure (.inr (.inl ⟨rfl,by simp [hb],rfl⟩))))
  ·cases hr
   refine wpAny_bind (knd.pyHash h2 ?_)
   first
    | exact wpAny_pure (.inr (.inr ⟨rfl,by simp [hb],rfl⟩))
    | exact wpAny_bind (wpAny_pure (wpAny_pure (.inr (.inr ⟨rfl,by simp [hb],rfl⟩))))
  ·cases hr
 ·rintro r s' (⟨hr,_⟩ | ⟨hr,_⟩ | ⟨_,hb,rfl⟩)
  ·cases hr
  ·cases hr
  ·show wpAny _ _ (retInt (Builtin.Tuple.tupleHashOf r.toList)) _ _ _
   rw [hb]
   refine wpAny_ret_mkInt ?_
   show wpAny _ _ (if (decide (-(2:Int) ^ 63<=Builtin.Tuple.tupleHashOf [tupleKeyHash knd x.1,knd.hash x.2]) && decide (Builtin.Tuple.tupleHashOf [tupleKeyHash knd x.1,knd.hash x.2] < 2 ^ 63))=true then _ else _) Q E _
   unfold qS reduceHash at h
   by_cases hr:(decide (-(2:Int) ^ 63<=Builtin.Tuple.tupleHashOf [tupleKeyHash knd x.1,knd.hash x.2]) && decide (Builtin.Tuple.tupleHashOf [tupleKeyHash knd x.1,knd.hash x.2] < 2 ^ 63))=true
   ·rw [if_pos hr]
    rw [if_pos hr] at h
    exact wpAny_pure (by simpa [Nat.add_assoc] using h)
   ·rw [if_neg hr]
    rw [if_neg hr] at h
    exact wpAny_bind (wpAny_rule (wpAny_pure (by simpa [Nat.add_assoc] using h)))
theorem Be {x y:List K × K} {a b:Addr} {P:Fin->Shared->Prop} (hu:A.units < cLine) (hx:dB knd s.heap x a) (hy:dB knd s.heap y b) (h:P (.done (.ret (.bool (decide (x=y))))) s) :
  wpAny (model prog w) A (Builtin.«tuple.__eq__» ⟨[.ref a,.ref b],[]⟩) P E s:=by
 have hTb:=hy.typeIs
 obtain ⟨oa,na,a1,v1,hoa,_,hda,p1,q1⟩:=hx
 obtain ⟨ob,nb,a2,v2,hob,_,hdb,p2,q2⟩:=hy
 show wpAny _ _ (isInstance (.ref b) (.type "tuple") >>= _) _ _ s
 refine wpAny_bind (wpAny_isInstance hTb isSubtype_tuple_tuple ?_)
 simp only [Bool.not_true,Bool.false_eq_true,if_false]
 refine wpAny_bind (wpAny_tupleItemsOf hoa hda ?_)
 refine wpAny_bind (wpAny_tupleItemsOf hob hdb ?_)
 refine wpAny_bind ?_
 refine wpAny_forIn_list _
  (fun rest r s'=>r.1=none/\s'=s/\((rest=[(.ref a1,.ref a2),(v1,v2)])\/(rest=[(v1,v2)]/\x.1=y.1)\/(rest=[]/\x=y)))
  _ ?_ ?_ _ _ ⟨rfl,rfl,.inl rfl⟩
 ·rintro ⟨u,v⟩ rest r s' ⟨hr,rfl,hz | ⟨hz,e⟩ | ⟨hz,_⟩⟩
  ·cases hz
   refine wpAny_bind (wpAny_eqBool_tuple hu p1 p2 ?_)
   by_cases hk:x.1=y.1
   ·rw [decide_eq_true hk]
    simp only [Bool.not_true,Bool.false_eq_true,if_false]
    exact wpAny_pure ⟨rfl,rfl,by simp [hk]⟩
   ·rw [decide_eq_false hk]
    simp only [Bool.not_false,if_true]
    have hf:decide (x=y)=false:=decide_eq_false fun z=>hk (by rw [z])
    rw [hf] at h
    exact wpAny_bind (wpAny_pure (wpAny_pure (wpAny_pure h)))
  ·cases hz
   refine wpAny_bind (knd.eqBool (a:=x.2) (b:=y.2) q1 q2 ?_)
   by_cases hk:x.2=y.2
   ·rw [decide_eq_true hk]
    simp only [Bool.not_true,Bool.false_eq_true,if_false]
    exact wpAny_pure ⟨rfl,rfl,.inr (.inr ⟨trivial,Prod.ext e hk⟩)⟩
   ·rw [decide_eq_false hk]
    simp only [Bool.not_false,if_true]
    have hf:decide (x=y)=false:=decide_eq_false fun z=>hk (by rw [z])
    rw [hf] at h
    exact wpAny_bind (wpAny_pure (wpAny_pure (wpAny_pure h)))
  ·cases hz
 ·rintro ⟨r1,r2⟩ s' ⟨hr,rfl,hz | ⟨hz,_⟩ | ⟨_,e⟩⟩
  ·cases hz
  ·cases hz
  ·simp only at hr
   subst hr
   refine wpAny_pure ?_
   rw [decide_eq_true e] at h
   exact h
theorem vG {x y:List K × K} {a b:Addr} {Q:Bool->Shared->Prop} (hu:A.units + 1 < cLine) (hx:dB knd s.heap x a) (hy:dB knd s.heap y b) (h:Q (decide (x=y)) s) :
  wpAny (model prog w) A (eqBool (.ref a) (.ref b)) Q E s:=by
 unfold eqBool
 try with_reducible refine wpAny_holding ?_
 show wpAny _ _ (if (Value.ref a == Value.ref b)=true then _ else _) Q E s
 by_cases hab:(Value.ref a == Value.ref b)=true
 ·rw [if_pos hab]
  have e:a=b:=by have:=eq_of_beq hab;injection this
  subst e
  obtain rfl:=hx.inj hy
  exact wpAny_bind (wpAny_rule (wpAny_pure (by simpa using h)))
 ·rw [if_neg hab]
  exact wpAny_bind (wpAny_richCompare_same_room (op:=.Eq) hx.typeIs hy.typeIs F.slot_tuple_eq
   (wpAny_call_entry F.slot_tuple_eq hx.typeIs F.entry_tuple_eq (Be (by first | exact hu | (show A.units + 1 < cLine;exact hu)) hx hy ⟨_,rfl,(fun e=>nomatch e),wpAny_truthy_bool h⟩) (F.args_tuple_eq_2 _ _)) (by omega))
theorem sZ {x:List K × K} {a:Addr} {Q:Bool->Shared->Prop} (hk:dB knd s.heap x a) (h:Q true s):wpAny (model prog w) A (eqIsQuiet 8 (.ref a)) Q E s:=by
 have hT:=hk.typeIs
 obtain ⟨o,n,b,v,ho,_,hd,h1,h2⟩:=hk
 have inner:∀ {Q:Bool->Shared->Prop},Q true s->wpAny (model prog w) A (eqIsQuiet 7 (.ref b)) Q E s:=by
  intro Q h
  have hT:=h1.typeIs
  obtain ⟨o,items,n,ho,_,hd,hi⟩:=h1
  unfold eqIsQuiet
  refine wpAny_bind (wpAny_specialOf hT F.slot_tuple_eq.lookup ?_)
  show wpAny _ _ (isInstance (.ref b) (.type "tuple") >>= _) _ _ s
  refine wpAny_bind (wpAny_isInstance hT isSubtype_tuple_tuple ?_)
  simp only [Bool.not_true,Bool.false_eq_true,if_false]
  refine wpAny_bind (wpAny_seqItems ho hd ?_)
  refine wpAny_bind ?_
  show wpAny _ _ (forIn items _ _) _ _ s
  rw [<- Array.forIn_toList]
  refine wpAny_forIn_list _ (fun rest r s'=>r.1=none/\s'=s/\∀ v∈rest,carriedByValue v=true) _ ?_ ?_ _ _ ⟨rfl,rfl,hi.byValue⟩
  ·rintro v rest r s' ⟨hr,rfl,hall⟩
   rw [eqIsQuiet_byValue _ (hall v List.mem_cons_self)]
   refine wpAny_bind (wpAny_pure ?_)
   simp only [Bool.not_true,Bool.false_eq_true,if_false]
   exact wpAny_pure ⟨rfl,rfl,fun u hu'=>hall u (List.mem_cons_of_mem _ hu')⟩
  ·rintro ⟨r1,r2⟩ s' ⟨hr,rfl,_⟩
   simp only at hr
   subst hr
   exact wpAny_pure h
 unfold eqIsQuiet
 refine wpAny_bind (wpAny_specialOf hT F.slot_tuple_eq.lookup ?_)
 show wpAny _ _ (isInstance (.ref a) (.type "tuple") >>= _) _ _ s
 refine wpAny_bind (wpAny_isInstance hT isSubtype_tuple_tuple ?_)
 simp only [Bool.not_true,Bool.false_eq_true,if_false]
 refine wpAny_bind (wpAny_seqItems ho hd ?_)
 refine wpAny_bind ?_
 show wpAny _ _ (forIn #[Value.ref b,v] _ _) _ _ s
 rw [<- Array.forIn_toList]
 refine wpAny_forIn_list _ (fun rest r s'=>r.1=none/\s'=s/\(rest=[.ref b,v]\/rest=[v]\/rest=[])) _ ?_ ?_ _ _ ⟨rfl,rfl,.inl rfl⟩
 ·rintro u rest r s' ⟨hr,rfl,hz | hz | hz⟩
  ·cases hz
   refine wpAny_bind (inner ?_)
   simp only [Bool.not_true,Bool.false_eq_true,if_false]
   exact wpAny_pure ⟨rfl,rfl,by simp⟩
  ·cases hz
   rw [eqIsQuiet_byValue _ (knd.byValue _ _ h2)]
   refine wpAny_bind (wpAny_pure ?_)
   simp only [Bool.not_true,Bool.false_eq_true,if_false]
   exact wpAny_pure ⟨rfl,rfl,by simp⟩
  ·cases hz
 ·rintro ⟨r1,r2⟩ s' ⟨hr,rfl,_⟩
  simp only at hr
  subst hr
  exact wpAny_pure h
end
def Jg {prog:Program} {w:World} {K:Type} [DecidableEq K] (knd:KeyKind prog w K):HeapKind prog w (List K × K) where
 is:=dB knd
 hash:=qS knd
 draws:=fun x=>x.1.length + 3
 room:=fun A=>A.units + 1 < cLine
 inj:=fun hx hy=>hx.inj hy
 keeps:=fun x ho hd hs=>x.keeps ho hd hs
 pyHash:=fun hu hk h=>vH hu hk h
 eqBool:=fun hu hx hy h=>vG hu hx hy h
 quiet:=fun hk h=>sZ hk h
end PySem
set_option Elab.async false
namespace L2
open PySem PySem.Spec PyProof.Rows
abbrev Key:=Sum Int Str
def sU:Key->Value->Bool
 | .inl k,v=>Value.isInt k v
 | .inr x,v=>Value.isStrOf x v
def Rk (w:World):Key->Int
 | .inl k=>hashInt k
 | .inr x=>hashStr w x
theorem eE:∀ {k:Key} {v:Value},sU k v=true->(∃ i t,k=Sum.inl i/\v=Value.int i t)\/(∃ x t,k=Sum.inr x/\v=Value.str x t)
 | .inl i,v,h=>by
  obtain ⟨t,e⟩:=Value.isInt_shape (k:=i) (v:=v) h
  exact .inl ⟨i,t,rfl,e⟩
 | .inr x,v,h=>by
  obtain ⟨t,e⟩:=Value.isStrOf_shape (x:=x) (v:=v) h
  exact .inr ⟨x,t,rfl,e⟩
theorem GP (i:Int) (t:Tok):sU (.inl i) (.int i t)=true:=by simp [sU,Value.isInt]
theorem G6 (x:Str) (t:Tok):sU (.inr x) (.str x t)=true:=by simp [sU,Value.isStrOf]
theorem Pp (a b:Int):decide ((Sum.inl a:Key)=Sum.inl b)=(a == b):=by
 by_cases e:a=b
 ·subst e;simp
 ·have h:¬ (Sum.inl a:Key)=Sum.inl b:=fun q=>e (Sum.inl.inj q)
  rw [decide_eq_false h]
  exact (beq_eq_false_iff_ne.mpr e).symm
theorem O1 (a b:Str):decide ((Sum.inr a:Key)=Sum.inr b)=decide (a=b):=by
 by_cases e:a=b
 ·subst e;simp
 ·have h:¬ (Sum.inr a:Key)=Sum.inr b:=fun q=>e (Sum.inr.inj q)
  rw [decide_eq_false h,decide_eq_false e]
theorem OO (a:Int) (b:Str):decide ((Sum.inl a:Key)=Sum.inr b)=false:=decide_eq_false (fun q=>nomatch q)
theorem PX (a:Str) (b:Int):decide ((Sum.inr a:Key)=Sum.inl b)=false:=decide_eq_false (fun q=>nomatch q)
def dJ (prog:Program) (w:World):PySem.KeyKind prog w Key where
 is:=sU
 hash:=Rk w
 inj:=fun v a b ha hb=>by
  rcases eE ha with ⟨i,t,rfl,rfl⟩ | ⟨x,t,rfl,rfl⟩
  ·rcases eE hb with ⟨j,u,rfl,e⟩ | ⟨y,u,rfl,e⟩
   ·injection e with e1 _;rw [e1]
   ·exact nomatch e
  ·rcases eE hb with ⟨j,u,rfl,e⟩ | ⟨y,u,rfl,e⟩
   ·exact nomatch e
   ·injection e with e1 _;rw [e1]
 byValue:=fun k v h=>by
  rcases eE h with ⟨i,t,rfl,rfl⟩ | ⟨x,t,rfl,rfl⟩ <;> rfl
 pyHash:=fun hv h=>by
  rcases eE hv with ⟨i,t,rfl,rfl⟩ | ⟨x,t,rfl,rfl⟩
  ·exact wpAny_pyHash_int h
  ·exact wpAny_pyHash_str h
 eqBool:=fun hu hv h=>by
  rcases eE hu with ⟨i,t,rfl,rfl⟩ | ⟨x,t,rfl,rfl⟩
  ·rcases eE hv with ⟨j,u,rfl,rfl⟩ | ⟨y,u,rfl,rfl⟩
   ·rw [Pp] at h;exact wpAny_eqBool_int h
   ·rw [OO] at h;exact SeqAt.EqAt.int_str i t y u _ _ _ _ h
  ·rcases eE hv with ⟨j,u,rfl,rfl⟩ | ⟨y,u,rfl,rfl⟩
   ·rw [PX] at h;exact SeqAt.EqAt.str_int x t j u _ _ _ _ h
   ·rw [O1] at h;exact wpAny_eqBool_str h
 «strs»:=fun k x t v h=>by
  rcases eE h with ⟨i,u,rfl,e⟩ | ⟨y,u,rfl,e⟩
  ·exact nomatch e
  ·injection e with e1 _
   subst e1
   cases v <;> rfl
theorem CK (prog:Program) (w:World) (i:Int) (t:Tok):(dJ prog w).is (.inl i) (.int i t)=true:=GP i t
theorem CY (prog:Program) (w:World) (x:Str) (t:Tok):(dJ prog w).is (.inr x) (.str x t)=true:=G6 x t
inductive V where
 | non | bl (b:Bool) | int (i:Int) | str (x:Str) | byt (b:Array UInt8) | flt (b:UInt64) | ref (a:Addr) | ty (n:String)
 deriving DecidableEq
def RelV:V->Value->Prop
 | .non,u=>u=Value.none
 | .bl b,u=>u=Value.bool b
 | .int i,u=>∃ t,u=Value.int i t
 | .str x,u=>∃ t,u=Value.str x t
 | .byt b,u=>∃ t,u=Value.bytes b t
 | .flt b,u=>∃ t,u=Value.float b t
 | .ref a,u=>u=Value.ref a
 | .ty n,u=>u=Value.type n
abbrev Vals:List V->List Value->Prop:=Paired RelV
theorem Vals.length {xs:List V} {us:List Value} (r:Vals xs us):xs.length=us.length:=Paired.length r
theorem Vals.get:∀ {xs:List V} {us:List Value} {i:Nat} {x:V},Vals xs us->xs[i]?=some x->∃ u,us[i]?=some u/\RelV x u
 | _,_,_,_,.nil,e=>by simp at e
 | _,_,0,_,.cons r _,e=>by simp at e;subst e;exact ⟨_,rfl,r⟩
 | _,_,i + 1,x,.cons _ t,e=>by
  obtain ⟨u,h1,h2⟩:=Vals.get (i:=i) (x:=x) t (by simpa using e)
  exact ⟨u,by simpa using h1,h2⟩
theorem Vals.set {x:V} {u:Value} (r:RelV x u):∀ {xs:List V} {us:List Value} (i:Nat),Vals xs us->Vals (xs.set i x) (us.set i u)
 | _,_,_,.nil=>.nil
 | _,_,0,.cons _ t=>.cons r t
 | _,_,i + 1,.cons q t=>.cons q (Vals.set r i t)
theorem Vals.append:∀ {xs ys:List V} {us ws:List Value},Vals xs us->Vals ys ws->Vals (xs++ys) (us++ws)
 | _,_,_,_,.nil,s=>s
 | _,_,_,_,.cons r t,s=>.cons r (Vals.append t s)
theorem Vals.take:∀ {xs:List V} {us:List Value} (n:Nat),Vals xs us->Vals (xs.take n) (us.take n)
 | _,_,0,_=>.nil
 | _,_,_ + 1,.nil=>.nil
 | _,_,n + 1,.cons r t=>.cons r (Vals.take n t)
theorem Vals.drop:∀ {xs:List V} {us:List Value} (n:Nat),Vals xs us->Vals (xs.drop n) (us.drop n)
 | _,_,0,r=>r
 | _,_,_ + 1,.nil=>.nil
 | _,_,n + 1,.cons _ t=>Vals.drop n t
def oG:Option V->Option Value->Prop
 | some v,some u=>RelV v u
 | none,none=>True
 | _,_=>False
def KV {κ:Type}:List (κ × V)->List (κ × Value)->Prop:=Paired fun (p:κ × V) (q:κ × Value)=>p.1=q.1/\RelV p.2 q.2
def kV:Key->V
 | .inl i=>.int i
 | .inr x=>.str x
inductive HO where
  | lst (xs:List V)
  | tup (xs:List V)
  | dK (kvs:List (Key × V)) | dT (kvs:List (List Key × V)) | dN (kvs:List ((List Key × Key) × V))
  | set (S:Int->Bool) (n:Nat)
  | ins (C dx:Addr) (fs:List (Str × V))
  | own (x:Addr)
  | xd (fs:List (Str × V))
  | met (f x:Addr)
  | rng (lo hi:Int)
  | frz (o:Obj) (u:HO)
  | tbl (ps:Array Value)
  | ext (φ:Heap->Prop)
abbrev Hp:=Addr->Option HO
def upd (H:Hp) (a:Addr) (o:HO):Hp:=fun b=>if b=a then some o else H b
theorem cJ {H:Hp} {a:Addr} {o:HO}:upd H a o a=some o:=by unfold upd;rw [if_pos rfl]
theorem bL {H:Hp} {a b:Addr} {o:HO} (h:b≠a):upd H a o b=H b:=by unfold upd;rw [if_neg h]
theorem QP {H:Hp} {a b:Addr} {o u:HO} (h:H a=some o) (h':H b=some u) (d:o≠u):a≠b:=by
 intro e;subst e;rw [h] at h';exact d (Option.some.inj h')
theorem cN {H:Hp} {a b:Addr} {o:HO} (h:H a=some o) (h':H b=none):a≠b:=by
 intro e;subst e;rw [h] at h';cases h'
def iY (h:Heap) (a:Addr) (items:Array Value):Prop:=∃ o,h.get? a=some o/\o.cls=.type "tuple"/\o.dict=none/\∃ n,o.data=.seq items n
theorem iY.tup {h:Heap} {a:Addr} {items:Array Value} (x:iY h a items):IsTup h a items:=let ⟨o,h1,h2,_,h3⟩:=x;⟨o,h1,h2,h3⟩
theorem iY.new (h:Heap) (items:Array Value):iY (h.push { cls:=.type "tuple",data:=.seq items }) h.objs.size items:=⟨_,Heap.get?_push_size _ rfl,rfl,rfl,_,rfl⟩
section
variable (P:Program) (w:World)
def bR (H:Hp) (h:Heap) (a:Addr):HO->Prop
 | .lst xs=>xs.length<=sizeLine/\∃ (its:List Value) (n:Nat),Vals xs its/\h.get? a=some { cls:=.type "list",data:=.seq its.toArray n }
 | .tup xs=>xs.length<=sizeLine/\∃ its:List Value,Vals xs its/\iY h a its.toArray
 | .dK kvs=>kvs.length<=sizeLine/\(a == sysModules)=false/\∃ vs,KV kvs vs/\h.DictOf (dJ P w) a vs
 | .dT kvs=>kvs.length<=sizeLine/\(a == sysModules)=false/\∃ xs:List (List Key × Addr × Value),
   Paired (fun (p:List Key × V) (q:List Key × Addr × Value)=>p.1=q.1/\H q.2.1=some (.tup (p.1.map kV))/\RelV p.2 q.2.2) kvs xs /\
   ∃ o es ep,h.get? a=some o/\o.ExactDict/\o.data=.dict es ep/\es.toList=xs.map (entryOfKey (tupleKind (dJ P w)))/\(xs.map (·.1)).Nodup
 | .dN kvs=>kvs.length<=sizeLine/\(a == sysModules)=false/\∃ xs:List ((List Key × Key) × Addr × Value),
   Paired (fun (p:(List Key × Key) × V) (q:(List Key × Key) × Addr × Value)=>p.1=q.1/\(∃ c,H q.2.1=some (.tup [.ref c,kV p.1.2])/\H c=some (.tup (p.1.1.map kV)))/\RelV p.2 q.2.2) kvs xs /\
   ∃ o es ep,h.get? a=some o/\o.ExactDict/\o.data=.dict es ep/\es.toList=xs.map (entryOfKey (Jg (dJ P w)))/\(xs.map (·.1)).Nodup
 | .set S n=>h.SetOf (intKind P w) a S n
 | .ins C dx fs=>H dx=some (.own a)/\fs.length<=1000/\dx≠a/\h.get? a=some (PySem.W.instObj C dx) /\
   ∃ mA,h.Ns1 dx mA/\(∀ f,oG (fs.lookup f) (mA f))/\PySem.Within mA (fs.map (·.1))
 | .own _=>∃ o,h.get? a=some o
 | .xd fs=>∃ mA,h.Ns1 a mA/\∀ f,oG (fs.lookup f) (mA f)
 | .rng lo hi=>∃ t u v,h.get? a=some { cls:=.type "range",data:=.fields #[.int lo t,.int hi u,.int 1 v] }
 | .frz o u=>h.get? a=some o/\bR H h a u
 | .tbl ps=>h.get? a=some { cls:=.none,data:=.fields ps }
 | .met f x=>h.get? a=some (PySem.W.methodObj (.ref f) (.ref x))
 | .ext φ=>φ h/\(∃ o,h.get? a=some o)/\∀ h1 h2:Heap,φ h1->(∀ o,h1.get? a=some o->h2.get? a=some o)->φ h2
def gJ (H:Hp) (h:Heap):Prop:=∀ a o,H a=some o->bR P w H h a o
end
section
variable {P:Program} {w:World} {H H':Hp} {h h':Heap} {a:Addr} {o:HO}
theorem bR.lt (x:bR P w H h a o):a < h.objs.size:=by
 cases o with
 | lst xs=>obtain ⟨_,_,_,_,e⟩:=x;exact Heap.lt_size e
 | tup xs=>obtain ⟨_,_,_,p⟩:=x;exact IsTup.lt (iY.tup p)
 | dK kvs=>obtain ⟨_,_,_,_,o,_,_,e,_⟩:=x;exact Heap.lt_size e
 | dT kvs=>obtain ⟨_,_,_,_,o,_,_,e,_⟩:=x;exact Heap.lt_size e
 | dN kvs=>obtain ⟨_,_,_,_,o,_,_,e,_⟩:=x;exact Heap.lt_size e
 | set S n=>obtain ⟨o,_,_,_,e,_⟩:=x;exact Heap.lt_size e
 | ins C dx fs=>obtain ⟨_,_,_,e,_⟩:=x;exact Heap.lt_size e
 | own y=>obtain ⟨_,e⟩:=x;exact Heap.lt_size e
 | xd fs=>obtain ⟨_,⟨_,_,_,e,_⟩,_⟩:=x;exact Heap.lt_size e
 | rng lo hi=>obtain ⟨_,_,_,e⟩:=x;exact Heap.lt_size e
 | frz ob u=>obtain ⟨e,_⟩:=x;exact Heap.lt_size e
 | tbl ps=>exact Heap.lt_size (show h.get? a=some _ from x)
 | met f y=>exact Heap.lt_size (show h.get? a=some _ from x)
 | ext φ=>obtain ⟨_,⟨_,e⟩,_⟩:=x;exact Heap.lt_size e
theorem Paired.mapP {α β:Type} {F G:α->β->Prop}:∀ {l₁:List α} {l₂:List β},Paired F l₁ l₂->(∀ a b,F a b->G a b)->Paired G l₁ l₂
 | _,_,.nil,_=>.nil
 | _,_,.cons r t,f=>.cons (f _ _ r) (Paired.mapP t f)
theorem bR.stay (x:bR P w H h a o) (k:∀ b u,(b=a\/H b=some (.own a))->h.get? b=some u->h'.get? b=some u)
  (ho:∀ b,H b=some (.own a)->H' b=some (.own a)) (ht:∀ b xs,H b=some (.tup xs)->H' b=some (.tup xs)):bR P w H' h' a o:=by
 induction o with
 | lst xs=>obtain ⟨z,its,n,r,e⟩:=x;exact ⟨z,its,n,r,k _ _ (.inl rfl) e⟩
 | tup xs=>obtain ⟨z,its,r,ob,e,c⟩:=x;exact ⟨z,its,r,ob,k _ _ (.inl rfl) e,c⟩
 | dK kvs=>obtain ⟨z,y,vs,r,ob,es,ep,e,c⟩:=x;exact ⟨z,y,vs,r,ob,es,ep,k _ _ (.inl rfl) e,c⟩
 | dT kvs =>
  obtain ⟨z,y,xs,r,ob,es,ep,e,c⟩:=x
  exact ⟨z,y,xs,Paired.mapP r fun p q z=>⟨z.1,ht _ _ z.2.1,z.2.2⟩,ob,es,ep,k _ _ (.inl rfl) e,c⟩
 | dN kvs =>
  obtain ⟨z,y,xs,r,ob,es,ep,e,c⟩:=x
  exact ⟨z,y,xs,Paired.mapP r fun p q z=>⟨z.1,let ⟨c,h1,h2⟩:=z.2.1;⟨c,ht _ _ h1,ht _ _ h2⟩,z.2.2⟩,ob,es,ep,k _ _ (.inl rfl) e,c⟩
 | set S n=>obtain ⟨ob,es,ep,t,e,c⟩:=x;exact ⟨ob,es,ep,t,k _ _ (.inl rfl) e,c⟩
 | ins C dx fs =>
  obtain ⟨d,z,ne,e,mA,⟨od,es,ep,e2,c⟩,r⟩:=x
  exact ⟨ho _ d,z,ne,k _ _ (.inl rfl) e,mA,⟨od,es,ep,k _ _ (.inr d) e2,c⟩,r⟩
 | own y=>obtain ⟨ob,e⟩:=x;exact ⟨ob,k _ _ (.inl rfl) e⟩
 | xd fs=>obtain ⟨mA,⟨od,es,ep,e,c⟩,r⟩:=x;exact ⟨mA,⟨od,es,ep,k _ _ (.inl rfl) e,c⟩,r⟩
 | rng lo hi=>obtain ⟨t,u,v,e⟩:=x;exact ⟨t,u,v,k _ _ (.inl rfl) e⟩
 | frz ob u ih=>obtain ⟨e,q⟩:=x;exact ⟨k _ _ (.inl rfl) e,ih q⟩
 | tbl ps =>
  have e:h.get? a=some { cls:=.none,data:=.fields ps }:=x
  show h'.get? a=some { cls:=.none,data:=.fields ps }
  exact k a _ (.inl rfl) e
 | met f y =>
  have e:h.get? a=some (PySem.W.methodObj (.ref f) (.ref y)):=x
  show h'.get? a=some (PySem.W.methodObj (.ref f) (.ref y))
  exact k a _ (.inl rfl) e
 | ext φ=>obtain ⟨p,⟨o,e⟩,st⟩:=x;exact ⟨st _ _ p fun o q=>k _ _ (.inl rfl) q,⟨o,k _ _ (.inl rfl) e⟩,st⟩
theorem gJ.lt (x:gJ P w H h) (e:H a=some o):a < h.objs.size:=(x a o e).lt
theorem gJ.fresh (x:gJ P w H h) (e:h.objs.size<=a):H a=none:=by
 cases q:H a with
 | none=>rfl
 | some u=>exact absurd (Nat.lt_of_lt_of_le (x.lt q) e) (Nat.lt_irrefl _)
theorem gJ.kept (x:gJ P w H h) (k:∀ b u,h.get? b=some u->h'.get? b=some u):gJ P w H h':=fun a o e =>
 (x a o e).stay (fun b u _ q=>k b u q) (fun _ q=>q) fun _ _ q=>q
theorem gJ.laid (x:gJ P w H h) (k:∀ b u,h.get? b=some u->h'.get? b=some u) (hp:h.objs.size<=a) (new:bR P w (upd H a o) h' a o):gJ P w (upd H a o) h':=fun b u e=>by
 have hn:=x.fresh hp
 by_cases hb:b=a
 ·subst hb;rw [cJ] at e;cases e;exact new
 ·rw [bL hb] at e
  exact (x b u e).stay (fun c v _ q=>k c v q) (fun c q=>by rw [bL (cN q hn)];exact q) fun c xs q=>by rw [bL (cN q hn)];exact q
end
def Rd (H:Hp) (a:Addr) (u:HO):Prop:=H a=some u\/∃ o,H a=some (.frz o u)
theorem Rd.ok {P:Program} {w:World} {H:Hp} {h:Heap} {a:Addr} {u:HO} (r:Rd H a u) (x:gJ P w H h):bR P w H h a u:=by
 rcases r with r | ⟨o,r⟩
 ·exact x a u r
 ·obtain ⟨_,q⟩:=x a _ r
  exact q
def HK:Option HO->Prop
 | some (.lst _)=>True
 | some (.dK _)=>True
 | some (.dT _)=>True
 | some (.dN _)=>True
 | some (.set _ _)=>True
 | some (.ins _ _ _)=>True
 | some (.ext _)=>True
 | _=>False
section
variable {P:Program} {w:World} {H:Hp} {h h':Heap} {x e:Addr} {o':HO}
theorem gJ.write (ok:gJ P w H h) (mu:HK (H x)) (he:e=x\/H e=some (.own x)) (k:∀ b u,b≠e->h.get? b=some u->h'.get? b=some u) (heo:∃ u,h'.get? e=some u)
  (new:bR P w (upd H x o') h' x o'):gJ P w (upd H x o') h':=fun b u q=>by
 have nown:∀ c y,H c=some (.own y)->c≠x:=fun c y r z=>by subst z;rw [r] at mu;exact mu
 have ntup:∀ c xs,H c=some (.tup xs)->c≠x:=fun c xs r z=>by subst z;rw [r] at mu;exact mu
 by_cases hb:b=x
 ·subst hb;rw [cJ] at q;cases q;exact new
 ·rw [bL hb] at q
  by_cases hbe:b=e
  ·have q':H b=some (.own x):=by
    rcases he with z | z
    ·exact absurd (hbe.trans z) hb
    ·rw [hbe];exact z
   rw [q] at q';cases q'
   obtain ⟨v,hv⟩:=heo
   exact ⟨v,by rw [hbe];exact hv⟩
  ·refine (ok b u q).stay (fun c v hc r=>k c v ?_ r) (fun c r=>by rw [bL (nown c b r)];exact r) fun c xs r=>by rw [bL (ntup c xs r)];exact r
   rcases hc with rfl | hc
   ·exact hbe
   ·rintro rfl
    rcases he with z | z
    ·exact nown c b hc z
    ·rw [hc] at z;cases z;exact hb rfl
end
structure Un (fs ex:List Addr) (H H':Hp) (h h':Heap):Prop where
 keep:∀ b o,h.get? b=some o->H b=none->b ∉ fs->b ∉ ex->h'.get? b=some o
 slot:∀ b o,h.get? b=some o->H b=none->b∈fs->b ∉ ex->∃ sl,h'.get? b=some { o with slots:=sl }
 free:∀ b o,h.get? b=some o->H b=none->b ∉ ex->H' b=none
 there:∀ b o,h.get? b=some o->b ∉ ex->∃ o',h'.get? b=some o'
 tups:∀ b xs,H b=some (.tup xs)->H' b=some (.tup xs)
 frzs:∀ b o u,H b=some (.frz o u)->H' b=some (.frz o u)
 tbls:∀ b ps,H b=some (.tbl ps)->∃ more,H' b=some (.tbl (ps++more))
section
variable {fs fs' ex ex':List Addr} {H H1 H2:Hp} {h h1 h2 h':Heap} {a x e:Addr} {o:HO}
theorem Un.any (u:Un fs ex H H1 h h1) {b:Addr} {ob:Obj} (q:h.get? b=some ob) (n:H b=none) (hx:b ∉ ex):∃ sl,h1.get? b=some { ob with slots:=sl }:=by
 by_cases hb:b∈fs
 ·exact u.slot b ob q n hb hx
 ·exact ⟨ob.slots,u.keep b ob q n hb hx⟩
theorem Un.kept (k:∀ b u,h.get? b=some u->h'.get? b=some u):Un fs ex H H h h' :=
 ⟨fun b ob q _ _ _=>k b ob q,fun b ob q _ _ _=>⟨ob.slots,k b ob q⟩,fun _ _ _ n _=>n,fun b ob q _=>⟨ob,k b ob q⟩,fun _ _ q=>q,fun _ _ _ q=>q,fun _ ps q=>⟨#[],by rw [q];simp⟩⟩
theorem Un.refl:Un fs ex H H h h:=Un.kept fun _ _ q=>q
theorem Un.laid (k:∀ b u,h.get? b=some u->h'.get? b=some u) (hp:h.objs.size<=a) (hn:H a=none):Un fs ex H (upd H a o) h h' where
 keep:=fun b u q _ _ _=>k b u q
 slot:=fun b u q _ _ _=>⟨u.slots,k b u q⟩
 free:=fun b u q n _=>by rw [bL (Nat.ne_of_lt (Nat.lt_of_lt_of_le (Heap.lt_size q) hp))];exact n
 there:=fun b u q _=>⟨u,k b u q⟩
 tups:=fun b xs q=>by rw [bL (cN q hn)];exact q
 frzs:=fun b u xs q=>by rw [bL (cN q hn)];exact q
 tbls:=fun b ps q=>⟨#[],by rw [bL (cN q hn),q];simp⟩
theorem Un.write (mu:HK (H x)) (he:e=x\/H e=some (.own x)) (k:∀ b u,b≠e->h.get? b=some u->h'.get? b=some u) (heo:∃ u,h'.get? e=some u):Un fs ex H (upd H x o) h h':=by
 have hx:∀ b,H b=none->b≠x:=fun b n z=>by subst z;rw [n] at mu;exact mu
 have hb:∀ b,H b=none->b≠e:=fun b n z=>by
  subst z
  rcases he with r | r
  ·exact hx b n r
  ·rw [n] at r;cases r
 have hm:∀ b u,H b=some u->¬ HK (some u)->b≠x:=fun b u q nm z=>by subst z;rw [q] at mu;exact nm mu
 refine ⟨fun b u q n _ _=>k b u (hb b n) q,fun b u q n _ _=>⟨u.slots,k b u (hb b n) q⟩,fun b u q n _=>by rw [bL (hx b n)];exact n,fun b u q _=>?_,
  fun b xs q=>by rw [bL (hm b _ q fun z=>z)];exact q,fun b u xs q=>by rw [bL (hm b _ q fun z=>z)];exact q,fun b ps q=>⟨#[],by rw [bL (hm b _ q fun z=>z),q];simp⟩⟩
 by_cases hbe:b=e
 ·subst hbe;exact heo
 ·exact ⟨u,k b u hbe q⟩
end
def Li (h:Heap) (H:Hp):List Addr:=(List.range h.objs.size).filter fun a=>(H a).isSome
def gN (h:Heap) (H:Hp):Heap:=PySem.W.hideAll h (Li h H)
theorem Ae (h:Heap) (H:Hp):(gN h H).objs.size=h.objs.size:=PySem.W.hideAll_size _ _
theorem pO {h:Heap} {H:Hp} {b:Addr} {o:Obj} (e:h.get? b=some o) (n:H b=none):(gN h H).get? b=some o :=
 PySem.W.hideAll_get _ e fun hm=>by
  have q:(H b).isSome=true:=(List.mem_filter.mp hm).2
  rw [n] at q;simp at q
theorem y0 {h:Heap} {H:Hp} {b:Addr} {o:Obj} (e:(gN h H).get? b=some o):h.get? b=some o/\H b=none:=by
 have e':h.get? b=some o:=PySem.W.of_hideAll (Li h H) e
 refine ⟨e',?_⟩
 cases q:H b with
 | none=>rfl
 | some x =>
  have hm:b∈Li h H:=List.mem_filter.mpr ⟨List.mem_range.mpr (Heap.lt_size e'),by simp [q]⟩
  have z:(gN h H).get? b=none:=PySem.W.hideAll_none (Li h H) hm
  rw [z] at e;cases e
structure Mod (K:PySem.W.Frag) (mg:Str->Option Value) (base:Heap):Prop where
 kin:K.In base
 glob:base.Ns mainGlobals mg
 blt:∃ mb,base.Ns builtinsNs mb/\∀ x:Str,x≠"__name__"->mb x=bootBuiltins x
 nolimit:base.NoLimit
structure Cx where
 prog:Program
 w:World
 K:PySem.W.Frag
 mg:Str->Option Value
 base:Heap
 A:Around
 N:List Str
 s₀:Shared
 H₀:Hp
 env:Env
 outer:List Env
 stack:List Env
 ex:List Addr
 fn:Str->Bool
 calm:Bool
 pn:List (Addr × Obj)
 xe:Value->Shared->Prop
def i9 (l:List Env):List Addr:=l.filterMap (·.frame)
abbrev Cx.fs (X:Cx):List Addr:=i9 X.outer
def DH (sc:Scope) (x:Str):Prop:=sc.names.lookup x=some .local\/sc.names.lookup x=some .cell\/sc.names.lookup x=some .free
def Loc (sc:Scope) (x:Str):Prop:=sc.names.lookup x=some .local\/sc.names.lookup x=some .cell
def Look (env:Env) (h:Heap) (m:Str->Option Value) (x:Str) (u:Value):Prop :=
 (env.kindOf x=some .local/\m x=some u)\/((env.kindOf x=some .cell\/env.kindOf x=some .free)/\∃ c,env.cells.lookup x=some c/\h.IsCell c (some u))
structure Cx.Ok (X:Cx):Prop where
 mod:Mod X.K X.mg X.base
 kind:X.env.scope.kind=.function
 glob:X.env.globals=mainGlobals
 blt:X.env.builtins=builtinsNs
 above:X.s₀.heap.objs.size<=X.env.locals
 inj:∀ x y c,X.env.cells.lookup x=some c->X.env.cells.lookup y=some c->x=y
 has:∀ x,(X.env.kindOf x=some .cell\/X.env.kindOf x=some .free)->∃ c,X.env.cells.lookup x=some c
 cab:∀ x c,X.fn x=true->X.env.cells.lookup x=some c->X.s₀.heap.objs.size<=c
 hd:X.calm=true->X.A.handled=none
 frames:X.A.frames=some X.stack
 stk:X.stack=X.outer\/(X.stack=X.env :: X.outer/\X.env.frame=some X.env.locals)
 exf:∀ b∈X.ex,b≠X.env.locals/\∀ x c,X.env.cells.lookup x=some c->c≠b
 bs:∀ b o,X.base.get? b=some o->X.s₀.heap.get? b=some o/\X.H₀ b=none
 bsz:X.base.objs.size<=X.s₀.heap.objs.size
 noex:∀ b o,X.base.get? b=some o->b ∉ X.ex
 exfs:∀ b∈X.ex,b ∉ X.fs
 funs:X.s₀.heap.FunFrames X.base X.outer
 frf:∀ b∈X.fs,X.H₀ b=none
structure Inv (X:Cx) (pins:List (Addr × Obj)) (σ:List (Option V)) (H:Hp) (s:Shared):Prop where
 ok:X.Ok
 os:s.os=X.s₀.os
 bare:AllBare s.gens
 base:Un X.fs X.ex X.H₀ H X.s₀.heap s.heap
 loc:∃ m,s.heap.Ns X.env.locals m/\∀ (i:Nat) (x:Str) (v:V),X.N[i]?=some x->σ[i]?=some (some v)->DH X.env.scope x->∃ u,RelV v u/\Look X.env s.heap m x u
 cell:∀ x c,X.env.cells.lookup x=some c->∃ v,s.heap.IsCell c v
 free:H X.env.locals=none
 freeC:∀ x c,X.env.cells.lookup x=some c->H c=none
 pin:∀ p∈X.pn++pins,s.heap.get? p.1=some p.2/\H p.1=none/\p.1≠X.env.locals/\p.1 ∉ X.fs/\∀ v,p.2.data≠.cell v
 hok:gJ X.prog X.w H s.heap
 len:σ.length=X.N.length
section
variable {X:Cx} {pins:List (Addr × Obj)} {σ:List (Option V)} {H H':Hp} {s:Shared} {h':Heap}
theorem Cx.Ok.nofr (ok:X.Ok) {b:Addr} {o:Obj} (e:X.base.get? b=some o):b ∉ X.fs:=fun hb=>by
 have:=(ok.funs.mem hb).1
 rw [e] at this;cases this
theorem Inv.bs (I:Inv X pins σ H s):∀ b o,X.base.get? b=some o->s.heap.get? b=some o/\H b=none:=fun b o e =>
 ⟨I.base.keep b o (I.ok.bs b o e).1 (I.ok.bs b o e).2 (I.ok.nofr e) (I.ok.noex b o e),I.base.free b o (I.ok.bs b o e).1 (I.ok.bs b o e).2 (I.ok.noex b o e)⟩
theorem Inv.bk (I:Inv X pins σ H s):∀ b o,X.base.get? b=some o->s.heap.get? b=some o:=fun b o e=>(I.bs b o e).1
theorem Inv.mod (I:Inv X pins σ H s):Mod X.K X.mg X.base:=I.ok.mod
theorem Inv.kIn (I:Inv X pins σ H s):X.K.In s.heap:=I.ok.mod.kin.keeps I.bk
theorem Inv.fr (I:Inv X pins σ H s):∃ m,Fr X.base X.env.locals s.heap m :=
 let ⟨m,hn,_⟩:=I.loc
 ⟨m,hn,I.bk,Nat.le_trans I.ok.bsz I.ok.above⟩
theorem Inv.lt (I:Inv X pins σ H s):X.env.locals < s.heap.objs.size:=let ⟨_,hn,_⟩:=I.loc;hn.lt
theorem Inv.sz (I:Inv X pins σ H s):X.s₀.heap.objs.size<=s.heap.objs.size:=Nat.le_trans I.ok.above (Nat.le_of_lt I.lt)
theorem Inv.nofs (I:Inv X pins σ H s) {a:Addr} (h:s.heap.objs.size<=a):a ∉ X.fs:=fun hb=>by
 obtain ⟨_,o,ho,_⟩:=I.ok.funs.mem hb
 exact absurd (Nat.lt_of_lt_of_le (Heap.lt_size ho) (Nat.le_trans I.sz h)) (Nat.lt_irrefl _)
theorem Inv.cne (I:Inv X pins σ H s):∀ x c,X.env.cells.lookup x=some c->c≠X.env.locals:=fun x c e z=>by
 obtain ⟨v,o,ho,hd⟩:=I.cell x c e
 obtain ⟨m,⟨o',es,ep,ho',hd',_⟩,_⟩:=I.loc
 rw [z,ho'] at ho;cases ho;rw [hd'] at hd;cases hd
theorem Inv.funs (I:Inv X pins σ H s):s.heap.FunFrames X.base X.outer:=by
 have all:∀ (l:List Env),(∀ b∈i9 l,b∈X.fs)->X.s₀.heap.FunFrames X.base l->s.heap.FunFrames X.base l:=by
  intro l
  induction l with
  | nil=>intro _ _;trivial
  | cons env r ih =>
   intro hs hl
   obtain ⟨hk,⟨L,o,hf,hn,ho,hd⟩,hr⟩:=hl
   have hL:L∈X.fs:=hs L (by unfold i9;rw [List.filterMap_cons,hf];exact List.mem_cons_self)
   obtain ⟨sl,e⟩:=I.base.slot L o ho (I.ok.frf L hL) hL fun z=>I.ok.exfs L z hL
   exact ⟨hk,⟨L,_,hf,hn,e,hd⟩,ih (fun b hb=>hs b (by unfold i9;rw [List.filterMap_cons,hf];exact List.mem_cons_of_mem _ hb)) hr⟩
 exact all X.outer (fun _ hb=>hb) I.ok.funs
theorem Inv.stack (I:Inv X pins σ H s):s.heap.FunFrames X.base X.stack:=by
 rcases I.ok.stk with e | ⟨e,hf⟩
 ·rw [e];exact I.funs
 ·rw [e]
  obtain ⟨m,hn,_⟩:=I.loc
  refine .cons (by rw [I.ok.kind];decide) hf hn ?_ I.funs
  exact Heap.get?_none_of_le (Nat.le_trans I.ok.bsz I.ok.above)
theorem Inv.stkSub (I:Inv X pins σ H s):∀ b∈i9 X.stack,b∈X.env.locals :: X.fs:=fun b hb=>by
 rcases I.ok.stk with e | ⟨e,hf⟩
 ·rw [e] at hb;exact List.mem_cons_of_mem _ hb
 ·rw [e] at hb
  unfold i9 at hb
  rw [List.filterMap_cons,hf] at hb
  exact hb
theorem Inv.stkFree (I:Inv X pins σ H s):∀ b∈i9 X.stack,H b=none:=fun b hb=>by
 rcases List.mem_cons.mp (I.stkSub b hb) with e | hb
 ·rw [e];exact I.free
 ·obtain ⟨_,o,ho,_⟩:=I.ok.funs.mem hb
  exact I.base.free b o ho (I.ok.frf b hb) fun z=>I.ok.exfs b z hb
theorem Inv.step {g':Array GenState} {t':Nat} {d':Drawn} {ch:List Addr} (I:Inv X pins σ H s)
  (hch:∀ b∈ch,(b∈X.ex\/X.s₀.heap.objs.size<=b)/\b≠X.env.locals/\(∀ x c,X.env.cells.lookup x=some c->c≠b)/\∀ p∈X.pn++pins,p.1≠b)
  (keep:∀ b o,b≠X.env.locals->b ∉ X.fs->b ∉ ch->s.heap.get? b=some o->H b=none->h'.get? b=some o)
  (slot:∀ b o,b≠X.env.locals->b∈X.fs->b ∉ ch->s.heap.get? b=some o->H b=none->∃ sl,h'.get? b=some { o with slots:=sl }) (free:∀ b o,b ∉ ch->s.heap.get? b=some o->H b=none->H' b=none)
  (there:∀ b o,b ∉ ch->s.heap.get? b=some o->∃ o',h'.get? b=some o')
  (tups:∀ b xs,H b=some (.tup xs)->H' b=some (.tup xs)) (frzs:∀ b o u,H b=some (.frz o u)->H' b=some (.frz o u)) (tbls:∀ b ps,H b=some (.tbl ps)->∃ more,H' b=some (.tbl (ps++more)))
  (ns:∀ m,s.heap.Ns X.env.locals m->h'.Ns X.env.locals m) (hok:gJ X.prog X.w H' h') (hg:AllBare g') :
  Inv X pins σ H' { s with heap:=h',gens:=g',drawn:=d',toks:=t' }:=by
 have neL:∀ b o,X.s₀.heap.get? b=some o->b≠X.env.locals:=fun b o e=>Nat.ne_of_lt (Nat.lt_of_lt_of_le (Heap.lt_size e) I.ok.above)
 have neC:∀ b o,X.s₀.heap.get? b=some o->b ∉ X.ex->b ∉ ch:=fun b o e hx hb=>by
  rcases (hch b hb).1 with z | z
  ·exact hx z
  ·exact absurd (Nat.lt_of_lt_of_le (Heap.lt_size e) z) (Nat.lt_irrefl _)
 have cellK:∀ x c,X.env.cells.lookup x=some c->∀ v,s.heap.IsCell c v->h'.IsCell c v:=fun x c e v ⟨o,ho,hd⟩=>by
  have nch:c ∉ ch:=fun z=>(hch c z).2.2.1 x c e rfl
  by_cases hc:c∈X.fs
  ·obtain ⟨sl,q⟩:=slot c o (I.cne x c e) hc nch ho (I.freeC x c e)
   exact ⟨_,q,hd⟩
  ·exact ⟨o,keep c o (I.cne x c e) hc nch ho (I.freeC x c e),hd⟩
 refine ⟨I.ok,I.os,hg,⟨fun b o e n hb hx=>?_,fun b o e n hb hx=>?_,fun b o e n hx=>?_,fun b o e hx=>?_,fun b xs e=>tups b xs (I.base.tups b xs e),fun b o xs e=>frzs b o xs (I.base.frzs b o xs e),fun b ps e=>?_⟩,?_,fun x c e=>?_,?_,fun x c e=>?_,fun p hp=>?_,hok,I.len⟩
 ·exact keep b o (neL b o e) hb (neC b o e hx) (I.base.keep b o e n hb hx) (I.base.free b o e n hx)
 ·obtain ⟨sl,e1⟩:=I.base.slot b o e n hb hx
  obtain ⟨sl',e2⟩:=slot b _ (neL b o e) hb (neC b o e hx) e1 (I.base.free b o e n hx)
  exact ⟨sl',e2⟩
 ·obtain ⟨o',e1⟩:=I.base.there b o e hx
  exact free b o' (neC b o e hx) e1 (I.base.free b o e n hx)
 ·obtain ⟨o',e1⟩:=I.base.there b o e hx
  exact there b o' (neC b o e hx) e1
 ·obtain ⟨m1,e1⟩:=I.base.tbls b ps e
  obtain ⟨m2,e2⟩:=tbls b _ e1
  exact ⟨m1++m2,by rw [e2,Array.append_assoc]⟩
 ·obtain ⟨m,hn,hl⟩:=I.loc
  refine ⟨m,ns m hn,fun i x v e1 e2 e3=>?_⟩
  obtain ⟨u,r,l⟩:=hl i x v e1 e2 e3
  refine ⟨u,r,?_⟩
  rcases l with l | ⟨k,c,e,z⟩
  ·exact .inl l
  ·exact .inr ⟨k,c,e,cellK x c e _ z⟩
 ·obtain ⟨v,z⟩:=I.cell x c e
  exact ⟨v,cellK x c e v z⟩
 ·obtain ⟨m,⟨o,_,_,ho,_⟩,_⟩:=I.loc
  exact free _ o (fun z=>(hch _ z).2.1 rfl) ho I.free
 ·obtain ⟨v,o,ho,hd⟩:=I.cell x c e
  exact free c o (fun z=>(hch c z).2.2.1 x c e rfl) ho (I.freeC x c e)
 ·obtain ⟨e,n,ne,nf,d⟩:=I.pin p hp
  have nch:p.1 ∉ ch:=fun z=>(hch p.1 z).2.2.2 p hp rfl
  exact ⟨keep p.1 p.2 ne nf nch e n,free p.1 p.2 nch e n,ne,nf,d⟩
theorem Inv.un {t':Nat} (I:Inv X pins σ H s) (u:Un X.fs [] H H' s.heap h') (hok:gJ X.prog X.w H' h'):Inv X pins σ H' { s with heap:=h',toks:=t' }:=by
 obtain ⟨m,⟨o,es,ep,ho,r⟩,_⟩:=id I.loc
 obtain ⟨sl,hL⟩:=u.any ho I.free (by simp)
 exact I.step (g':=s.gens) (d':=s.drawn) (ch:=[]) (fun _ z=>nomatch z) (fun b o _ hb _ e n=>u.keep b o e n hb (by simp)) (fun b o _ hb _ e n=>u.slot b o e n hb (by simp)) (fun b o _ e n=>u.free b o e n (by simp)) (fun b o _ e=>u.there b o e (by simp)) u.tups u.frzs u.tbls (fun m' hm=>by
  obtain ⟨o',es',ep',ho',r'⟩:=hm
  rw [ho] at ho';cases ho'
  exact ⟨_,es',ep',hL,r'⟩) hok I.bare
theorem Inv.call {g':Array GenState} {t':Nat} {d':Drawn} {ch:List Addr} (I:Inv X pins σ H s) (u:Un (i9 X.stack) ch H H' s.heap h') (hok:gJ X.prog X.w H' h') (hg:AllBare g')
  (hch:∀ b∈ch,(b∈X.ex\/X.s₀.heap.objs.size<=b)/\b≠X.env.locals/\(∀ x c,X.env.cells.lookup x=some c->c≠b)/\∀ p∈X.pn++pins,p.1≠b) :
  Inv X pins σ H' { s with heap:=h',gens:=g',drawn:=d',toks:=t' }:=by
 obtain ⟨m,⟨o,es,ep,ho,r⟩,_⟩:=id I.loc
 obtain ⟨sl,hL⟩:=u.any ho I.free fun z=>(hch _ z).2.1 rfl
 exact I.step (ch:=ch) hch (fun b o hL hb hc e n=>u.keep b o e n (fun z=>(List.mem_cons.mp (I.stkSub b z)).elim hL hb) hc) (fun b o _ _ hc e n=>u.any e n hc) (fun b o hc e n=>u.free b o e n hc) (fun b o hc e=>u.there b o e hc) u.tups u.frzs u.tbls (fun m' hm=>by
  obtain ⟨o',es',ep',ho',r'⟩:=hm
  rw [ho] at ho';cases ho'
  exact ⟨_,es',ep',hL,r'⟩) hok hg
theorem Inv.turned {t':Nat} {it:Addr} (I:Inv X pins σ H s) (k:∀ b o,b≠it->s.heap.get? b=some o->h'.get? b=some o) (hn:H it=none) (hL:it≠X.env.locals)
  (h1:it∈X.ex\/X.s₀.heap.objs.size<=it) (h2:∀ x c,X.env.cells.lookup x=some c->c≠it) (h3:∀ p∈X.pn++pins,p.1≠it):Inv X pins σ H { s with heap:=h',toks:=t' }:=by
 have nit:∀ b u,H b=some u->b≠it:=fun b u e z=>by rw [z,hn] at e;cases e
 refine I.step (g':=s.gens) (d':=s.drawn) (ch:=[it]) (fun b hb=>?_) (fun b o _ _ hc e _=>k b o (fun z=>hc (by simp [z])) e) (fun b o _ _ hc e _=>⟨o.slots,k b o (fun z=>hc (by simp [z])) e⟩) (fun _ _ _ _ n=>n)
  (fun b o hc e=>⟨o,k b o (fun z=>hc (by simp [z])) e⟩) (fun _ _ e=>e) (fun _ _ _ e=>e) (fun b ps e=>⟨#[],by rw [e];simp⟩) (fun m hm=>?_) (fun b u e=>?_) I.bare
 ·have e:b=it:=by simpa using hb
  subst e
  exact ⟨h1,hL,h2,h3⟩
 ·obtain ⟨o,es,ep,ho,r⟩:=hm
  exact ⟨o,es,ep,k _ o (Ne.symm hL) ho,r⟩
 ·refine (I.hok b u e).stay (fun c v hc q=>k c v ?_ q) (fun _ q=>q) fun _ _ q=>q
  rcases hc with z | z
  ·rw [z];exact nit b u e
  ·exact nit c _ z
theorem Inv.tok (I:Inv X pins σ H s) (t:Nat):Inv X pins σ H { s with toks:=t }:=I.un (h':=s.heap) (t':=t) Un.refl I.hok
theorem Inv.kept {t':Nat} (I:Inv X pins σ H s) (k:∀ b u,s.heap.get? b=some u->h'.get? b=some u):Inv X pins σ H { s with heap:=h',toks:=t' }:=I.un (Un.kept k) (I.hok.kept k)
theorem Inv.laid {a:Addr} {o:HO} {t':Nat} (I:Inv X pins σ H s) (k:∀ b u,s.heap.get? b=some u->h'.get? b=some u) (hp:s.heap.objs.size<=a) (new:bR X.prog X.w (upd H a o) h' a o) :
  Inv X pins σ (upd H a o) { s with heap:=h',toks:=t' }:=I.un (Un.laid k hp (I.hok.fresh hp)) (I.hok.laid k hp new)
theorem Inv.write {x e:Addr} {o:HO} {t':Nat} (I:Inv X pins σ H s) (mu:HK (H x)) (he:e=x\/H e=some (.own x)) (k:∀ b u,b≠e->s.heap.get? b=some u->h'.get? b=some u) (heo:∃ u,h'.get? e=some u)
  (new:bR X.prog X.w (upd H x o) h' x o):Inv X pins σ (upd H x o) { s with heap:=h',toks:=t' }:=I.un (Un.write mu he k heo) (I.hok.write mu he k heo new)
theorem Inv.weak {σ':List (Option V)} (I:Inv X pins σ H s) (hl:σ'.length=σ.length) (w:∀ (i:Nat) v,σ'[i]?=some (some v)->σ[i]?=some (some v)):Inv X pins σ' H s :=
 ⟨I.ok,I.os,I.bare,I.base,let ⟨m,hn,hl'⟩:=I.loc;⟨m,hn,fun i x v e1 e2 e3=>hl' i x v e1 (w i v e2) e3⟩,I.cell,I.free,I.freeC,I.pin,I.hok,hl.trans I.len⟩
theorem Inv.pins_of {pins':List (Addr × Obj)} (I:Inv X pins σ H s) (h:∀ p∈pins',s.heap.get? p.1=some p.2/\H p.1=none/\p.1≠X.env.locals/\p.1 ∉ X.fs/\∀ v,p.2.data≠.cell v):Inv X pins' σ H s :=
 ⟨I.ok,I.os,I.bare,I.base,I.loc,I.cell,I.free,I.freeC,fun p hp=>(List.mem_append.mp hp).elim (fun z=>I.pin p (List.mem_append_left _ z)) (h p),I.hok,I.len⟩
theorem Bf {N:List Str} (hN:N.Nodup) {i j:Nat} {x:Str} (a:N[i]?=some x) (b:N[j]?=some x):i=j:=by
 obtain ⟨h1,e1⟩:=List.getElem?_eq_some_iff.mp a
 obtain ⟨h2,e2⟩:=List.getElem?_eq_some_iff.mp b
 exact (List.getElem_inj hN).mp (e1.trans e2.symm)
theorem zS {M:Model} {A:Around} {E:Value->Shared->Prop} {i:Nat} {x:Str} {v:V} {u:Value} {Q:Unit->Shared->Prop} (I:Inv X pins σ H s) (hN:X.N.Nodup) (hi:X.N[i]?=some x) (hx:Loc X.env.scope x) (r:RelV v u)
  (h:∀ s',Inv X pins (σ.set i (some v)) H s'->(∃ a,Heap.SameBut a s.heap s'.heap/\(a=X.env.locals\/X.env.cells.lookup x=some a))->Q () s') (hf:X.fn x=true\/X.env.scope.names.lookup x=some .local:=by first | exact .inl rfl | exact .inr rfl | assumption):wpAny M A (storeName X.env x u) Q E s:=by
 obtain ⟨m,hn,hl⟩:=id I.loc
 have hcls:(X.env.scope.kind == .class || (X.env.scope.kind == .module && X.env.locals != X.env.globals))=false:=by rw [I.ok.kind];rfl
 have hiσ:i < σ.length:=by rw [I.len];exact (List.getElem?_eq_some_iff.mp hi).1
 have cne:=I.cne
 have tracked:∀ {a:Addr} {h':Heap},(∃ o,s.heap.get? a=some o/\H a=none)->Heap.SameBut a s.heap h'->gJ X.prog X.w H h':=fun {a h'} ha hs b ob e=>by
  obtain ⟨_,_,hfree⟩:=ha
  refine (I.hok b ob e).stay (fun c w' hc q=>(hs.2 c ?_).trans q) (fun _ q=>q) fun _ _ q=>q
  rintro rfl
  rcases hc with rfl | hc
  ·rw [hfree] at e;cases e
  ·rw [hfree] at hc;cases hc
 rcases hx with hk | hk
 ·refine wpAny_storeName_local hk hn (fun h' hn' hs=>?_) hcls
  obtain ⟨oL,_,_,hoL,_⟩:=id hn
  refine h _ ⟨I.ok,I.os,I.bare,⟨fun b o e n hb hx=>?_,fun b o e n hb hx=>?_,I.base.free,fun b o e hx=>?_,I.base.tups,I.base.frzs,I.base.tbls⟩,⟨_,hn',fun j y v' e1 e2 e3=>?_⟩,fun y c e=>?_,I.free,I.freeC,fun p hp=>?_,tracked ⟨oL,hoL,I.free⟩ hs,by simpa using I.len⟩ ⟨_,hs,.inl rfl⟩
  ·exact (hs.2 b (Nat.ne_of_lt (Nat.lt_of_lt_of_le (Heap.lt_size e) I.ok.above))).trans (I.base.keep b o e n hb hx)
  ·obtain ⟨sl,e1⟩:=I.base.slot b o e n hb hx
   exact ⟨sl,(hs.2 b (Nat.ne_of_lt (Nat.lt_of_lt_of_le (Heap.lt_size e) I.ok.above))).trans e1⟩
  ·obtain ⟨o',e1⟩:=I.base.there b o e hx
   exact ⟨o',(hs.2 b (Nat.ne_of_lt (Nat.lt_of_lt_of_le (Heap.lt_size e) I.ok.above))).trans e1⟩
  ·by_cases hj:j=i
   ·subst hj
    rw [hi] at e1;cases e1
    rw [List.getElem?_set_self hiσ] at e2
    cases e2
    exact ⟨u,r,.inl ⟨hk,by simp⟩⟩
   ·rw [List.getElem?_set_ne (Ne.symm hj)] at e2
    obtain ⟨u',r',q⟩:=hl j y v' e1 e2 e3
    refine ⟨u',r',?_⟩
    rcases q with ⟨k,e⟩ | ⟨k,c,e,z⟩
    ·refine .inl ⟨k,?_⟩
     have:y≠x:=fun e=>hj (Bf hN e1 (e ▸ hi))
     simp [this,e]
    ·exact .inr ⟨k,c,e,z.sameBut hs (cne y c e)⟩
  ·obtain ⟨w',z⟩:=I.cell y c e
   exact ⟨w',z.sameBut hs (cne y c e)⟩
  ·obtain ⟨e,n,ne,nf,d⟩:=I.pin p hp
   exact ⟨(hs.2 p.1 ne).trans e,n,ne,nf,d⟩
 ·have hfn:X.fn x=true:=by
   rcases hf with z | z
   ·exact z
   ·rw [z] at hk;cases hk
  obtain ⟨c,hc⟩:=I.ok.has x (.inl hk)
  obtain ⟨w',z⟩:=I.cell x c hc
  refine wpAny_storeName_cell I.ok.kind hk hc z (fun h' hc' hs=>?_)
  obtain ⟨oc,hoc,hocd⟩:=id z
  refine h { s with heap:=h' } ⟨I.ok,I.os,I.bare,⟨fun b o e n hb hx=>?_,fun b o e n hb hx=>?_,I.base.free,fun b o e hx=>?_,I.base.tups,I.base.frzs,I.base.tbls⟩,⟨m,hn.sameBut hs (Ne.symm (cne x c hc)),fun j y v' e1 e2 e3=>?_⟩,fun y c' e=>?_,I.free,I.freeC,fun p hp=>?_,tracked ⟨oc,hoc,I.freeC x c hc⟩ hs,by simpa using I.len⟩ ⟨c,hs,.inr hc⟩
  ·exact (hs.2 b (Nat.ne_of_lt (Nat.lt_of_lt_of_le (Heap.lt_size e) (I.ok.cab x c hfn hc)))).trans (I.base.keep b o e n hb hx)
  ·obtain ⟨sl,e1⟩:=I.base.slot b o e n hb hx
   exact ⟨sl,(hs.2 b (Nat.ne_of_lt (Nat.lt_of_lt_of_le (Heap.lt_size e) (I.ok.cab x c hfn hc)))).trans e1⟩
  ·obtain ⟨o',e1⟩:=I.base.there b o e hx
   exact ⟨o',(hs.2 b (Nat.ne_of_lt (Nat.lt_of_lt_of_le (Heap.lt_size e) (I.ok.cab x c hfn hc)))).trans e1⟩
  ·by_cases hj:j=i
   ·subst hj
    rw [hi] at e1;cases e1
    rw [List.getElem?_set_self hiσ] at e2
    cases e2
    exact ⟨u,r,.inr ⟨.inl hk,c,hc,hc'⟩⟩
   ·rw [List.getElem?_set_ne (Ne.symm hj)] at e2
    obtain ⟨u',r',q⟩:=hl j y v' e1 e2 e3
    refine ⟨u',r',?_⟩
    rcases q with q | ⟨k,c',e,z'⟩
    ·exact .inl q
    ·refine .inr ⟨k,c',e,z'.sameBut hs ?_⟩
     rintro rfl
     exact hj (Bf hN e1 (I.ok.inj _ _ _ e hc ▸ hi))
  ·by_cases hcc:c'=c
   ·subst hcc;exact ⟨_,hc'⟩
   ·obtain ⟨w2,z2⟩:=I.cell y c' e
    exact ⟨w2,z2.sameBut hs hcc⟩
  ·obtain ⟨e,n,ne,nf,d⟩:=I.pin p hp
   refine ⟨(hs.2 p.1 ?_).trans e,n,ne,nf,d⟩
   intro q
   rw [q,hoc] at e
   have q':oc=p.2:=Option.some.inj e
   exact d w' (by rw [<- q'];exact hocd)
theorem Cm {M:Model} {A:Around} {E:Value->Shared->Prop} {i:Nat} {x:Str} {v:V} {u:Value} {Q:Unit->Shared->Prop} (I:Inv X pins σ H s) (hN:X.N.Nodup) (hi:X.N[i]?=some x) (hx:Loc X.env.scope x) (r:RelV v u)
  (h:∀ s',Inv X pins (σ.set i (some v)) H s'->Q () s') (hf:X.fn x=true\/X.env.scope.names.lookup x=some .local:=by first | exact .inl rfl | exact .inr rfl | assumption):wpAny M A (storeName X.env x u) Q E s :=
 zS I hN hi hx r (fun s' I' _=>h s' I') hf
theorem Inv.call' {s':Shared} {ch:List Addr} (I:Inv X pins σ H s) (ho:s'.os=s.os) (u:Un (i9 X.stack) ch H H' s.heap s'.heap) (hok:gJ X.prog X.w H' s'.heap) (hg:AllBare s'.gens)
  (hch:∀ b∈ch,(b∈X.ex\/X.s₀.heap.objs.size<=b)/\b≠X.env.locals/\(∀ x c,X.env.cells.lookup x=some c->c≠b)/\∀ p∈X.pn++pins,p.1≠b):Inv X pins σ H' s':=by
 obtain ⟨h',g',d',t',o'⟩:=s'
 have e:o'=s.os:=ho
 subst e
 exact I.call (g':=g') (t':=t') (d':=d') u hok hg hch
end
abbrev XK:=Value->Option Addr->Hp->Prop
abbrev St:=List (Option V)
abbrev VK:=V->Hp->Prop
abbrev TE:=St->Hp->VK->Prop
abbrev TT:=St->Hp->(Bool->Hp->Prop)->Prop
abbrev TA:=St->Hp->(List V->Hp->Prop)->Prop
structure Ends where
 nx:St->Hp->Prop
 rt:VK
 bk:St->Hp->Prop:=fun _ _=>False
 ct:St->Hp->Prop:=fun _ _=>False
abbrev TS:=Ends->St->Hp->Prop
def EP (X:Cx) (pins:List (Addr × Obj)) (σ:St) (Q:VK) (u:Value) (s':Shared):Prop:=∃ v H',Inv X pins σ H' s'/\RelV v u/\Q v H'
def TP (X:Cx) (pins:List (Addr × Obj)) (σ:St) (Q:Bool->Hp->Prop) (b:Bool) (s':Shared):Prop:=∃ H',Inv X pins σ H' s'/\Q b H'
def AP (X:Cx) (pins:List (Addr × Obj)) (σ:St) (Q:List V->Hp->Prop) (us:List Value) (s':Shared):Prop:=∃ vs H',Inv X pins σ H' s'/\Vals vs us/\Q vs H'
def SP (X:Cx) (pins:List (Addr × Obj)) (D:Ends) (f:Flow) (s':Shared):Prop :=
 match f with
 | .next=>∃ σ' H',Inv X pins σ' H' s'/\D.nx σ' H'
 | .brk=>∃ σ' H',Inv X pins σ' H' s'/\D.bk σ' H'
 | .cont=>∃ σ' H',Inv X pins σ' H' s'/\D.ct σ' H'
 | .ret u=>∃ v σ' H',Inv X pins σ' H' s'/\RelV v u/\D.rt v H'
def PE (X:Cx) (e:Expr) (t:TE):Prop :=
 ∀ (pins:List (Addr × Obj)) (s:Shared) (σ:St) (H:Hp) (Q:VK),Inv X pins σ H s->t σ H Q->wpAny (model X.prog X.w) X.A (eval e X.env) (EP X pins σ Q) X.xe s
def PT (X:Cx) (e:Expr) (t:TT):Prop :=
 ∀ (pins:List (Addr × Obj)) (s:Shared) (σ:St) (H:Hp) (Q:Bool->Hp->Prop),Inv X pins σ H s->t σ H Q->wpAny (model X.prog X.w) X.A (isTrue e X.env (eval e X.env)) (TP X pins σ Q) X.xe s
def PW (X:Cx) (e:Expr) (t:TT):Prop :=
 ∀ (whole:Sem Value) (pins:List (Addr × Obj)) (s:Shared) (σ:St) (H:Hp) (Q:Bool->Hp->Prop),Inv X pins σ H s->t σ H Q->wpAny (model X.prog X.w) X.A (isTrue e X.env whole) (TP X pins σ Q) X.xe s
theorem PW.pt {X:Cx} {e:Expr} {t:TT} (h:PW X e t):PT X e t:=h _
def PA (X:Cx) (es:List Expr) (t:TA):Prop :=
 ∀ (pos:Pos) (pins:List (Addr × Obj)) (s:Shared) (σ:St) (H:Hp) (Q:List V->Hp->Prop),Inv X pins σ H s->t σ H Q->wpAny (model X.prog X.w) X.A (spliced (backTo pos (starEach es X.env))) (AP X pins σ Q) X.xe s
def PS (X:Cx) (st:Stmt) (t:TS):Prop :=
 ∀ (pins:List (Addr × Obj)) (s:Shared) (σ:St) (H:Hp) (D:Ends),Inv X pins σ H s->t D σ H->wpAny (model X.prog X.w) X.A (exec st X.env) (SP X pins D) X.xe s
def pF (X:Cx) (st:List Stmt) (t:TS):Prop :=
 ∀ (pins:List (Addr × Obj)) (s:Shared) (σ:St) (H:Hp) (D:Ends),Inv X pins σ H s->t D σ H->wpAny (model X.prog X.w) X.A (execs st X.env) (SP X pins D) X.xe s
theorem bG {α:Type} {t:Sem α} {Q Q':α->Shared->Prop} {M:Model} {A:Around} {E:Value->Shared->Prop} {s:Shared} (h:wpAny M A t Q E s) (hQ:∀ a s,Q a s->Q' a s):wpAny M A t Q' E s:=wpAny_mono h hQ fun _ _ x=>x
section
variable {X:Cx}
theorem bin {a b:Expr} {ta tb:TE} (ha:PE X a ta) (hb:PE X b tb) {pins:List (Addr × Obj)} {s:Shared} {σ:St} {H:Hp} {R:V->V->Hp->Prop} (I:Inv X pins σ H s) (h:ta σ H fun x H1=>tb σ H1 fun y H2=>R x y H2)
  {α:Type} {Q:α->Shared->Prop} {f:Value->Value->Sem α}
  (hf:∀ v u s2 x y H2,Inv X pins σ H2 s2->RelV x v->RelV y u->R x y H2->wpAny (model X.prog X.w) X.A (f v u) Q X.xe s2) :
  wpAny (model X.prog X.w) X.A (eval a X.env) (fun v s₁=>wpAny (model X.prog X.w) X.A (eval b X.env) (fun u s₂=>wpAny (model X.prog X.w) X.A (f v u) Q X.xe s₂) X.xe s₁) X.xe s:=by
 refine bG (ha pins s σ H _ I h) fun v s1 ⟨x,H1,I1,r1,q1⟩=>?_
 refine bG (hb pins s1 σ H1 _ I1 q1) fun u s2 ⟨y,H2,I2,r2,q2⟩=>?_
 exact hf v u s2 x y H2 I2 r1 r2 q2
def Kf (i:Nat):TE:=fun σ H Q=>∃ v,σ[i]?=some (some v)/\Q v H
def tC (v:V):TE:=fun _ H Q=>Q v H
theorem HI {i:Nat} {x:Str} {pos:Pos} (hN:X.N[i]?=some x) (hv:DH X.env.scope x) (hd:(x == ("__debug__":Str))=false:=by decide) (hcd:(x == ("__classdict__":Str))=false:=by decide):PE X (.Name x pos) (Kf i):=by
 intro pins s σ H Q I h
 obtain ⟨v,e,h⟩:=h
 obtain ⟨m,hn,hl⟩:=I.loc
 obtain ⟨u,r,l⟩:=hl i x v hN e hv
 have fin:EP X pins σ Q u s:=⟨v,H,I,r,h⟩
 rcases l with ⟨hk,hm⟩ | ⟨hk,c,hc,hcell⟩
 ·exact wpAny_Name (wpAny_loadName_local I.ok.kind hk hn hm fin) hd
 ·rcases hk with hk | hk
  ·exact wpAny_Name (wpAny_loadName_cell I.ok.kind hk hc hcell fin) hd
  ·exact wpAny_Name (wpAny_loadName_free I.ok.kind hk hc hcell fin hcd) hd
theorem Pn {i j pos}:PE X (.Constant (.int i) j pos) (tC (.int i)):=fun _ _ _ H _ I h=>wpAny_Constant_int ⟨.int i,H,I.tok _,⟨_,rfl⟩,h⟩
theorem Qt {b j pos}:PE X (.Constant (.bool b) j pos) (tC (.bl b)):=fun _ _ _ H _ I h=>Constant_bool ⟨.bl b,H,I,rfl,h⟩
theorem OW {j pos}:PE X (.Constant .none j pos) (tC .non):=fun _ _ _ H _ I h=>Constant_none ⟨.non,H,I,rfl,h⟩
theorem Pb {x j pos}:PE X (.Constant (.str x) j pos) (tC (.str x)):=fun _ _ _ H _ I h=>Calls.Constant_str ⟨.str x,H,I.tok _,⟨_,rfl⟩,h⟩
def Gl (X:Cx) (x:Str):Prop:=X.env.kindOf x=some .globalImplicit
theorem zB {E:Value->Shared->Prop} {pins:List (Addr × Obj)} {s:Shared} {σ:St} {H:Hp} {x:Str} {u:Value} {pos:Pos} {Q:Value->Shared->Prop} (I:Inv X pins σ H s) (hg:Gl X x) (hm:X.mg x=some u) (h:Q u s)
  (hd:(x == ("__debug__":Str))=false:=by decide):wpAny (model X.prog X.w) X.A (eval (.Name x pos) X.env) Q E s :=
 Calls.Name_function_global I.ok.kind hg (Calls.loadGlobal_global (by rw [I.ok.glob];exact I.mod.glob.keeps I.bk) hm h) hd
theorem jO {E:Value->Shared->Prop} {pins:List (Addr × Obj)} {s:Shared} {σ:St} {H:Hp} {x:Str} {u:Value} {pos:Pos} {Q:Value->Shared->Prop} (I:Inv X pins σ H s) (hg:Gl X x) (hm:X.mg x=none) (hv:bootBuiltins x=some u) (h:Q u s)
  (hn:x≠"__name__":=by decide) (hd:(x == ("__debug__":Str))=false:=by decide):wpAny (model X.prog X.w) X.A (eval (.Name x pos) X.env) Q E s:=by
 obtain ⟨mb,h1,h2⟩:=I.mod.blt
 exact Calls.Name_function_global I.ok.kind hg (Calls.loadGlobal_builtin (by rw [I.ok.glob];exact I.mod.glob.keeps I.bk) hm (by rw [I.ok.blt];exact h1.keeps I.bk) ((h2 x hn).trans hv) h) hd
theorem y7 {x:Str} {v:V} {u:Value} {pos:Pos} (hg:Gl X x) (hm:X.mg x=some u) (r:RelV v u) (hd:(x == ("__debug__":Str))=false:=by decide):PE X (.Name x pos) (tC v) :=
 fun _ _ _ H _ I h=>zB I hg hm ⟨v,H,I,r,h⟩ hd
theorem L5 {x:Str} {v:V} {u:Value} {pos:Pos} (hg:Gl X x) (hm:X.mg x=none) (hv:bootBuiltins x=some u) (r:RelV v u) (hn:x≠"__name__":=by decide) (hd:(x == ("__debug__":Str))=false:=by decide):PE X (.Name x pos) (tC v) :=
 fun _ _ _ H _ I h=>jO I hg hm hv ⟨v,H,I,r,h⟩ hn hd
def RD (ta tb:TE) (k:Int->Int->Hp->Prop):St->Hp->Prop:=fun σ H=>ta σ H fun x H1=>tb σ H1 fun y H2=>∃ i j,x=.int i/\y=.int j/\k i j H2
variable {a b:Expr} {ta tb:TE} {pos:Pos}
def zA (p:Int->Int->Bool) (ta tb:TE):TE:=fun σ H Q=>RD ta tb (fun i j H2=>Q (.bl (p i j)) H2) σ H
abbrev R4:TE->TE->TE:=zA fun i j=>decide (i < j)
abbrev R7:TE->TE->TE:=zA fun i j=>decide (i<=j)
abbrev R0:TE->TE->TE:=zA fun i j=>decide (j < i)
abbrev RZ:TE->TE->TE:=zA fun i j=>decide (j<=i)
abbrev RV:TE->TE->TE:=zA fun i j=>decide (i=j)
abbrev RS:TE->TE->TE:=zA fun i j=>!decide (i=j)
variable {tA tB':TT} {rest:List Expr}
def NQ (t u:TT):TT:=fun σ H Q=>t σ H fun c H1=>if c=true then u σ H1 Q else Q false H1
def Ra (t u:TT):TT:=fun σ H Q=>t σ H fun c H1=>if c=true then Q true H1 else u σ H1 Q
def Pa (t:TT):TT:=fun σ H Q=>t σ H fun c H1=>Q (!c) H1
theorem L0 (ha:PT X a tA):PW X (.BoolOp .And [a] pos) tA:=by
 intro wh pins s σ H Q I h
 refine isTrue_and (bG (ha pins s σ H Q I h) fun c s1 e=>?_)
 cases c with
 | true=>exact isTrue_and_nil e
 | false=>exact e
theorem PB (ha:PT X a tA):PW X (.BoolOp .Or [a] pos) tA:=by
 intro wh pins s σ H Q I h
 refine isTrue_or (bG (ha pins s σ H Q I h) fun c s1 e=>?_)
 cases c with
 | false=>exact isTrue_or_nil e
 | true=>exact e
theorem PL (ha:PT X a tA) (hb:PW X (.BoolOp .And (b :: rest) pos) tB'):PW X (.BoolOp .And (a :: b :: rest) pos) (NQ tA tB'):=by
 intro wh pins s σ H Q I h
 refine isTrue_and (bG (ha pins s σ H _ I h) fun c s1 ⟨H1,I1,q1⟩=>?_)
 cases c with
 | true=>exact hb wh pins s1 σ H1 Q I1 q1
 | false=>exact ⟨H1,I1,q1⟩
theorem P9 (ha:PT X a tA) (hb:PW X (.BoolOp .Or (b :: rest) pos) tB'):PW X (.BoolOp .Or (a :: b :: rest) pos) (Ra tA tB'):=by
 intro wh pins s σ H Q I h
 refine isTrue_or (bG (ha pins s σ H _ I h) fun c s1 ⟨H1,I1,q1⟩=>?_)
 cases c with
 | true=>exact ⟨H1,I1,q1⟩
 | false=>exact hb wh pins s1 σ H1 Q I1 q1
theorem OA (ha:PT X a tA):PT X (.UnaryOp .Not a pos) (Pa tA):=by
 intro pins s σ H Q I h
 exact isTrue_not (ha pins s σ H (fun c H1=>Q (!c) H1) I h)
def K7 (ta tb:TE):TE:=fun σ H Q=>ta σ H fun x H1=>∃ c,x=.bl c/\if c=true then tb σ H1 Q else Q (.bl false) H1
def Po (ta tb:TE):TE:=fun σ H Q=>ta σ H fun x H1=>∃ c,x=.bl c/\if c=true then Q (.bl true) H1 else tb σ H1 Q
def Ln (ta:TE):TE:=fun σ H Q=>ta σ H fun x H1=>∃ c,x=.bl c/\Q (.bl (!c)) H1
theorem Ou {op} {t:TE} (h:PE X a t):PE X (.BoolOp op [a] pos) t:=fun pins s σ H Q I hw=>BoolOp_one (h pins s σ H Q I hw)
theorem PM (ha:PE X a ta) (hb:PE X (.BoolOp .And (b :: rest) pos) tb):PE X (.BoolOp .And (a :: b :: rest) pos) (K7 ta tb):=by
 intro pins s σ H Q I h
 refine BoolOp_and (bG (ha pins s σ H _ I h) fun v s1 ⟨x,H1,I1,r1,q1⟩=>?_)
 obtain ⟨c,rfl,q1⟩:=q1
 cases r1
 refine wpAny_truthy_bool ?_
 cases c with
 | true=>exact hb pins s1 σ H1 Q I1 q1
 | false=>exact ⟨.bl false,H1,I1,rfl,q1⟩
theorem QM (ha:PE X a ta) (hb:PE X (.BoolOp .Or (b :: rest) pos) tb):PE X (.BoolOp .Or (a :: b :: rest) pos) (Po ta tb):=by
 intro pins s σ H Q I h
 refine BoolOp_or (bG (ha pins s σ H _ I h) fun v s1 ⟨x,H1,I1,r1,q1⟩=>?_)
 obtain ⟨c,rfl,q1⟩:=q1
 cases r1
 refine wpAny_truthy_bool ?_
 cases c with
 | false=>exact hb pins s1 σ H1 Q I1 q1
 | true=>exact ⟨.bl true,H1,I1,rfl,q1⟩
theorem Ov (ha:PE X a ta):PE X (.UnaryOp .Not a pos) (Ln ta):=by
 intro pins s σ H Q I h
 refine UnaryOp_ (bG (ha pins s σ H _ I h) fun v s1 ⟨x,H1,I1,r1,q1⟩=>?_)
 obtain ⟨c,rfl,q1⟩:=q1
 cases r1
 exact not_of (wpAny_truthy_bool ⟨.bl (!c),H1,I1,rfl,q1⟩)
def Q3 (t:TT) (ta tb:TE):TE:=fun σ H Q=>t σ H fun c H1=>if c=true then ta σ H1 Q else tb σ H1 Q
theorem JY {c:Expr} (hc:PT X c tA) (ha:PE X a ta) (hb:PE X b tb):PE X (.IfExp c a b pos) (Q3 tA ta tb):=by
 intro pins s σ H Q I h
 refine wpAny_IfExp (bG (hc pins s σ H _ I h) fun d s1 ⟨H1,I1,q1⟩=>?_)
 cases d with
 | true=>exact ha pins s1 σ H1 Q I1 q1
 | false=>exact hb pins s1 σ H1 Q I1 q1
end
def eO (K:PySem.W.Frag) (H:Hp) (a:Addr) (xs:List V):Prop :=
 Rd H a (.lst xs) \/
  ∃ (o:Obj) (its:Array Value) (n:Nat),K.lookup a=some o/\o.cls=.type "list"/\o.dict=none/\o.data=.seq its n/\its.size<=sizeLine/\Vals xs its.toList
def fW (K:PySem.W.Frag) (H:Hp) (a:Addr) (xs:List V):Prop :=
 Rd H a (.tup xs) \/
  ∃ (o:Obj) (its:Array Value) (n:Nat),K.lookup a=some o/\o.cls=.type "tuple"/\o.dict=none/\o.data=.seq its n/\its.size<=sizeLine/\Vals xs its.toList
def Rh:Value->Option V
 | .none=>some .non
 | .bool b=>some (.bl b)
 | .int i _=>some (.int i)
 | .str x _=>some (.str x)
 | .bytes b _=>some (.byt b)
 | .float b _=>some (.flt b)
 | .ref a=>some (.ref a)
 | .type n=>some (.ty n)
 | _=>none
theorem RelV.abs {x:V} {u:Value} (r:RelV x u):Rh u=some x:=by
 cases x with
 | non=>cases r;rfl
 | bl _=>cases r;rfl
 | int _=>obtain ⟨t,rfl⟩:=r;rfl
 | str _=>obtain ⟨t,rfl⟩:=r;rfl
 | byt _=>obtain ⟨t,rfl⟩:=r;rfl
 | flt _=>obtain ⟨t,rfl⟩:=r;rfl
 | ref _=>cases r;rfl
 | ty _=>cases r;rfl
theorem RelV.inj {x y:V} {u:Value} (r:RelV x u) (q:RelV y u):x=y:=Option.some.inj (r.abs.symm.trans q.abs)
theorem Vals.inj:∀ {xs ys:List V} {us:List Value},Vals xs us->Vals ys us->xs=ys
 | _,_,_,.nil,.nil=>rfl
 | _,_,_,.cons r t,.cons r' t'=>by rw [r.inj r',Vals.inj t t']
section
variable {X:Cx} {pins:List (Addr × Obj)} {σ:St} {H:Hp} {s:Shared} {a:Addr} {xs ys:List V}
theorem Inv.list (I:Inv X pins σ H s) (h:eO X.K H a xs):∃ its:List Value,Vals xs its/\PlainL s.heap a its.toArray/\xs.length<=sizeLine:=by
 rcases h with h | ⟨o,its,n,hk,hc,hd,hs,hz,r⟩
 ·obtain ⟨z,its,n,r,e⟩:=h.ok I.hok
  exact ⟨its,r,⟨_,n,e,rfl,rfl,rfl⟩,z⟩
 ·refine ⟨its.toList,r,⟨o,n,I.kIn a o hk,hc,hd,by simpa using hs⟩,?_⟩
  have e:=r.length
  simp only [Array.length_toList] at e
  omega
theorem Inv.tupleP (I:Inv X pins σ H s) (h:fW X.K H a xs):∃ its:List Value,Vals xs its/\iY s.heap a its.toArray/\xs.length<=sizeLine:=by
 rcases h with h | ⟨o,its,n,hk,hc,hd,hs,hz,r⟩
 ·obtain ⟨z,its,r,p⟩:=h.ok I.hok
  exact ⟨its,r,p,z⟩
 ·refine ⟨its.toList,r,⟨o,I.kIn a o hk,hc,hd,n,by simpa using hs⟩,?_⟩
  have e:=r.length
  simp only [Array.length_toList] at e
  omega
theorem Inv.tuple (I:Inv X pins σ H s) (h:fW X.K H a xs):∃ its:List Value,Vals xs its/\IsTup s.heap a its.toArray/\xs.length<=sizeLine:=by
 obtain ⟨its,r,p,z⟩:=I.tupleP h
 exact ⟨its,r,p.tup,z⟩
theorem Inv.list_inj (I:Inv X pins σ H s) (h:eO X.K H a xs) (h':eO X.K H a ys):xs=ys:=by
 obtain ⟨its,r,⟨o,n,e,_,_,d⟩,_⟩:=I.list h
 obtain ⟨its',r',⟨o',n',e',_,_,d'⟩,_⟩:=I.list h'
 rw [e] at e';cases e'
 rw [d] at d'
 injection d' with d1 _
 have:its=its':=by simpa using congrArg Array.toList d1
 subst this
 exact r.inj r'
theorem Inv.tuple_inj (I:Inv X pins σ H s) (h:fW X.K H a xs) (h':fW X.K H a ys):xs=ys:=by
 obtain ⟨its,r,⟨o,e,_,n,d⟩,_⟩:=I.tuple h
 obtain ⟨its',r',⟨o',e',_,n',d'⟩,_⟩:=I.tuple h'
 rw [e] at e';cases e'
 rw [d] at d'
 injection d' with d1 _
 have:its=its':=by simpa using congrArg Array.toList d1
 subst this
 exact r.inj r'
end
abbrev Cx.wish (X:Cx) (E:Value->Shared->Prop):Cx:={ X with xe:=E }
abbrev Cx.nox (X:Cx):Cx:=X.wish fun _ _=>False
theorem Cx.Ok.wish {X:Cx} (ok:X.Ok) (E:Value->Shared->Prop):(X.wish E).Ok :=
 ⟨ok.mod,ok.kind,ok.glob,ok.blt,ok.above,ok.inj,ok.has,ok.cab,ok.hd,ok.frames,ok.stk,ok.exf,ok.bs,ok.bsz,ok.noex,ok.exfs,ok.funs,ok.frf⟩
theorem Cx.Ok.unwish {X:Cx} {E:Value->Shared->Prop} (ok:(X.wish E).Ok):X.Ok :=
 ⟨ok.mod,ok.kind,ok.glob,ok.blt,ok.above,ok.inj,ok.has,ok.cab,ok.hd,ok.frames,ok.stk,ok.exf,ok.bs,ok.bsz,ok.noex,ok.exfs,ok.funs,ok.frf⟩
section
variable {X:Cx} {pins:List (Addr × Obj)} {σ:St} {H:Hp} {s:Shared} {E:Value->Shared->Prop}
theorem Inv.wish (I:Inv X pins σ H s) (E:Value->Shared->Prop):Inv (X.wish E) pins σ H s:=⟨I.ok.wish E,I.os,I.bare,I.base,I.loc,I.cell,I.free,I.freeC,I.pin,I.hok,I.len⟩
theorem Inv.unwish (I:Inv (X.wish E) pins σ H s):Inv X pins σ H s:=⟨I.ok.unwish,I.os,I.bare,I.base,I.loc,I.cell,I.free,I.freeC,I.pin,I.hok,I.len⟩
theorem SP.unwish {D:Ends} {f:Flow} {s':Shared} (h:SP (X.wish E) pins D f s'):SP X pins D f s':=by
 cases f with
 | next=>obtain ⟨σ',H',I,q⟩:=h;exact ⟨σ',H',I.unwish,q⟩
 | brk=>obtain ⟨σ',H',I,q⟩:=h;exact ⟨σ',H',I.unwish,q⟩
 | cont=>obtain ⟨σ',H',I,q⟩:=h;exact ⟨σ',H',I.unwish,q⟩
 | ret u=>obtain ⟨v,σ',H',I,r,q⟩:=h;exact ⟨v,σ',H',I.unwish,r,q⟩
theorem pF.nox {st:List Stmt} {t:TS} (h:pF X.nox st t):pF X st t:=fun pins s σ H D I hw =>
 wpAny_mono (h pins s σ H D (I.wish _) hw) (fun _ _ q=>q.unwish) fun _ _ z=>False.elim z
end
section
variable {X:Cx} {st:Stmt} {rest:List Stmt} {t u:TS} {e:Expr} {te:TE} {pos:Pos}
def Lr:TS:=fun D σ H=>D.nx σ H
def Pu (t u:TS):TS:=fun D σ H=>t { D with nx:=u D } σ H
theorem Nc:pF X [] Lr:=fun _ _ σ H _ I h=>wpAny_execs_nil ⟨σ,H,I,h⟩
theorem KC (h1:PS X st t) (h2:pF X rest u):pF X (st :: rest) (Pu t u):=by
 intro pins s σ H D I h
 refine wpAny_execs_cons (bG (h1 pins s σ H { D with nx:=u D } I h) fun f s1 q=>?_)
 cases f with
 | next =>
  obtain ⟨σ',H',I',q⟩:=q
  exact h2 pins s1 σ' H' D I' q
 | ret v=>exact q
 | brk=>exact q
 | cont=>exact q
theorem MX (h1:PS X st t):pF X [st] t:=by
 intro pins s σ H D I h
 refine wpAny_execs_cons (bG (h1 pins s σ H D I h) fun f s1 q=>?_)
 cases f with
 | next=>exact wpAny_execs_nil q
 | ret v=>exact q
 | brk=>exact q
 | cont=>exact q
theorem Inv.quiet {pins:List (Addr × Obj)} {σ:St} {H:Hp} {s:Shared} (I:Inv X pins σ H s):interactive X.env=false:=by simp [interactive,I.ok.kind]
def K4 (te:TE):TS:=fun D σ H=>te σ H fun _ H1=>D.nx σ H1
theorem Me (he:PE X e te) (hs:swapsWith e none pos.line X.env=pure false:=by rfl):PS X (.Expr e pos) (K4 te):=by
 intro pins s σ H D I h
 exact wpAny_Expr_any (bG (he pins s σ H _ I h) fun v s1 ⟨x,H1,I1,r1,q1⟩=>⟨σ,H1,I1,q1⟩) I.quiet hs
def OT (te:TE):TS:=fun D σ H=>te σ H D.rt
theorem OF (he:PE X e te):PS X (.Return (some e) pos) (OT te):=by
 intro pins s σ H D I h
 exact wpAny_Return_some (bG (he pins s σ H _ I h) fun v s1 ⟨x,H1,I1,r1,q1⟩=>⟨x,σ,H1,I1,r1,q1⟩)
def Py (c:TT) (t u:TS):TS:=fun D σ H=>c σ H fun b H1=>if b=true then t D σ H1 else u D σ H1
theorem QK {c:Expr} {a b:List Stmt} {tc:TT} (hc:PT X c tc) (ha:pF X a t) (hb:pF X b u):PS X (.If c a b pos) (Py tc t u):=by
 intro pins s σ H D I h
 refine wpAny_If (bG (hc pins s σ H _ I h) fun d s1 ⟨H1,I1,q1⟩=>?_)
 cases d with
 | true=>exact ha pins s1 σ H1 D I1 q1
 | false=>exact hb pins s1 σ H1 D I1 q1
end
abbrev TG:=V->St->Hp->(St->Hp->Prop)->Prop
abbrev pU:=List V->St->Hp->(St->Hp->Prop)->Prop
def PG (X:Cx) (target:Expr) (t:TG):Prop :=
 ∀ (pins:List (Addr × Obj)) (s:Shared) (σ:St) (H:Hp) (v:V) (u:Value) (Q:St->Hp->Prop),Inv X pins σ H s->RelV v u->t v σ H Q ->
  wpAny (model X.prog X.w) X.A (assign target X.env u) (fun _ s'=>∃ σ' H',Inv X pins σ' H' s'/\Q σ' H') X.xe s
def GD (X:Cx) (ts:List Expr) (t:pU):Prop :=
 ∀ (pins:List (Addr × Obj)) (s:Shared) (σ:St) (H:Hp) (vs:List V) (us:List Value) (Q:St->Hp->Prop),Inv X pins σ H s->Vals vs us->t vs σ H Q ->
  wpAny (model X.prog X.w) X.A (assignInOrder ((assignEach ts X.env).map (·.2)) us) (fun _ s'=>∃ σ' H',Inv X pins σ' H' s'/\Q σ' H') X.xe s
abbrev RT:=V->V->V->Hp->(Hp->Prop)->Prop
abbrev R3:=V->V->Hp->VK->Prop
section
variable {X:Cx} {pos:Pos}
def tF (i:Nat):TG:=fun v σ H Q=>Q (σ.set i (some v)) H
theorem Mv {i:Nat} {x:Str} (hN:X.N.Nodup) (hi:X.N[i]?=some x) (hx:Loc X.env.scope x) (hf:X.fn x=true\/X.env.scope.names.lookup x=some .local:=by first | exact .inl rfl | exact .inr rfl | assumption):PG X (.Name x pos) (tF i):=by
 intro pins s σ H v u Q I r h
 exact wpAny_assign_Name (Cm I hN hi hx r (fun s' I'=>⟨_,H,I',h⟩) hf)
def Bk:pU:=fun vs σ H Q=>vs=[]/\Q σ H
def xU (t:TG) (u:pU):pU:=fun vs σ H Q=>∃ v r,vs=v :: r/\t v σ H fun σ' H'=>u r σ' H' Q
theorem MZ:GD X [] Bk:=by
 intro pins s σ H vs us Q I r h
 obtain ⟨e,h⟩:=h
 subst e
 cases r
 exact assignInOrder_nil ⟨σ,H,I,h⟩
theorem IK {e:Expr} {es:List Expr} {t:TG} {u:pU} (h1:PG X e t) (h2:GD X es u)
  (hs:(assignEach (e :: es) X.env).map (·.2)=assign e X.env :: (assignEach es X.env).map (·.2):=by rfl):GD X (e :: es) (xU t u):=by
 intro pins s σ H vs us Q I r h
 obtain ⟨v,vr,e1,h⟩:=h
 subst e1
 cases r with
 | cons r rr =>
  rw [hs]
  refine assignInOrder_cons (bG (h1 pins s σ H _ _ _ I r h) fun _ s1 ⟨σ1,H1,I1,q1⟩=>?_)
  exact h2 pins s1 σ1 H1 _ _ Q I1 rr q1
def A4 (K:PySem.W.Frag) (n:Nat) (t:pU):TG:=fun v σ H Q=>∃ a xs,v=.ref a/\fW K H a xs/\xs.length=n/\t xs σ H Q
theorem OM {es:List Expr} {k:Nat} {t:pU} {n:Nat} (hc:X.calm=true) (h:GD X es t)
  (hn:(assignEach es X.env).length=n:=by rfl) (hst:(assignEach es X.env).findIdx? (·.1)=none:=by rfl):PG X (.Tuple es k pos) (A4 X.K n t):=by
 intro pins s σ H v u Q I r hw
 obtain ⟨a,xs,e1,hq,hl,hw⟩:=hw
 subst e1
 cases r
 obtain ⟨its,rv,ht,hz⟩:=I.tuple hq
 refine assign_Tuple_tuple (I.ok.hd hc) ht (by simp [hn,<- hl,rv.length]) hst fun h' hx=>?_
 have I1:Inv X pins σ H { s with heap:=h' }:=I.kept (t':=s.toks) fun b o e=>hx b o (Nat.ne_of_lt (Heap.lt_size e)) e
 exact h pins _ σ H xs _ Q I1 (by simpa using rv) hw
def Jt (te:TE) (g:TG):TS:=fun D σ H=>te σ H fun x H1=>g x σ H1 D.nx
theorem ON {i:Nat} {x:Str} {e:Expr} {te:TE} {pos':Pos} (hN:X.N.Nodup) (hi:X.N[i]?=some x) (hx:Loc X.env.scope x) (he:PE X e te) (hs:swapsWith e (some (.Name x pos')) pos.line X.env=pure false:=by rfl) (hf:X.fn x=true\/X.env.scope.names.lookup x=some .local:=by first | exact .inl rfl | exact .inr rfl | assumption) :
  PS X (.Assign [.Name x pos'] e pos) (Jt te (tF i)):=by
 intro pins s σ H D I h
 refine wpAny_Assign_Name (bG (he pins s σ H _ I h) fun v s1 ⟨y,H1,I1,r1,q1⟩=>?_) hs
 exact Cm I1 hN hi hx r1 (fun s2 I2=>⟨_,H1,I2,q1⟩) hf
end
section
variable {X:Cx} {pos:Pos}
def Hz (c:TT) (tb:TS):TS:=fun D σ H=>∃ W:Nat->St->Hp->Prop,(∃ m,W m σ H)/\∀ m σ H,W m σ H ->
 c σ H fun b H1=>if b=true then ∃ N:St->Hp->Prop,(∀ σ' H',N σ' H'->∃ m',m' < m/\W m' σ' H')/\tb { D with nx:=N,ct:=N,bk:=D.nx } σ H1 else D.nx σ H1
theorem JX {c:Expr} {body:List Stmt} {tc:TT} {tb:TS} (hp:PassesOwn (model X.prog X.w) X.A X.env X.xe) (hc:PT X c tc) (hb:pF X body tb):PS X (.While c body [] pos) (Hz tc tb):=by
 intro pins s σ H D I h
 obtain ⟨W,⟨m0,w0⟩,turn⟩:=h
 refine wpAny_While (codeAny_whileLoop (fun n s'=>∃ σ' H',Inv X pins σ' H' s'/\W n σ' H') ?_ m0 ⟨σ,H,I,w0⟩)
 rintro n s1 ⟨σ1,H1,I1,w1⟩
 refine wpAny_passesOwn hp (bG (hc pins s1 σ1 H1 _ I1 (turn n σ1 H1 w1)) fun b s2 ⟨H2,I2,q2⟩=>?_)
 cases b with
 | true =>
  obtain ⟨N,hN,q2⟩:=q2
  rw [if_pos rfl]
  refine wpAny_passesOwn hp (bG (hb pins s2 σ1 H2 _ I2 q2) fun f s3 q3=>?_)
  cases f with
  | next =>
   obtain ⟨σ3,H3,I3,n3⟩:=q3
   obtain ⟨m',hm,w3⟩:=hN σ3 H3 n3
   exact ⟨m',hm,σ3,H3,I3,w3⟩
  | cont =>
   obtain ⟨σ3,H3,I3,n3⟩:=q3
   obtain ⟨m',hm,w3⟩:=hN σ3 H3 n3
   exact ⟨m',hm,σ3,H3,I3,w3⟩
  | brk=>exact q3
  | ret v=>exact q3
 | false =>
  rw [if_neg Bool.false_ne_true]
  exact wpAny_execs_nil ⟨σ1,H2,I2,q2⟩
end
structure It where
 go:Nat->Hp->Prop
 yld:Nat->Hp->V->Hp->Prop
 stop:Nat->Hp->Prop
def tG (X:Cx) (pins:List (Addr × Obj)) (H:Hp) (b:Addr):Prop :=
 H b=none/\b≠X.env.locals/\b ∉ X.fs/\(b∈X.ex\/X.s₀.heap.objs.size<=b)/\(∀ x c,X.env.cells.lookup x=some c->c≠b)/\∀ p∈X.pn++pins,p.1≠b
theorem Inv.fpOk {X:Cx} {pins:List (Addr × Obj)} {σ:St} {H H':Hp} {s:Shared} {b:Addr} (I:Inv X pins σ H s) (hb:s.heap.objs.size<=b) (hn:H' b=none):tG X pins H' b:=by
 refine ⟨hn,Nat.ne_of_gt (Nat.lt_of_lt_of_le I.lt hb),I.nofs hb,.inr (Nat.le_trans I.sz hb),fun x c e z=>?_,fun p hp z=>?_⟩
 ·obtain ⟨v,q⟩:=I.cell x c e
  exact absurd (Nat.lt_of_lt_of_le q.lt (by rw [z];exact hb)) (Nat.lt_irrefl _)
 ·exact absurd (Nat.lt_of_lt_of_le (Heap.lt_size (I.pin p hp).1) (by rw [z];exact hb)) (Nat.lt_irrefl _)
structure Turn (P:Program) (w:World) (K:PySem.W.Frag) (tg:Expr) (J:It) (fp:List Addr) (it:Addr) (tn:Nat->Heap->Prop):Prop where
 mem:it∈fp
 obj:∀ i h,tn i h->∀ b∈fp,∃ o,h.get? b=some o/\∀ v,o.data≠.cell v
 keep:∀ i h h',tn i h->(∀ b∈fp,∀ o,h.get? b=some o->h'.get? b=some o)->tn i h'
 item:∀ (X:Cx),X.prog=P->X.w=w->X.K=K->X.calm=true->∀ (i:Nat) (pins:List (Addr × Obj)) (s:Shared) (σ:St) (H:Hp) (E:Value->Shared->Prop),Inv X pins σ H s->(∀ b∈fp,tG X pins H b)->tn i s.heap->J.go i H ->
  wpAny (model P w) X.A (pyNext (.ref it)) (fun r s1=>∃ u,r=some u /\
   wpAny (model P w) X.A (letOwnedTupleGo tg (.ref it) u) (fun _ s2=>∃ x H',Inv X pins σ H' s2/\RelV x u/\J.yld i H x H'/\tn (i + 1) s2.heap/\∀ b∈fp,H' b=none) E s1) E s
 done:∀ (X:Cx),X.prog=P->X.w=w->X.K=K->X.calm=true->∀ (i:Nat) (pins:List (Addr × Obj)) (s:Shared) (σ:St) (H:Hp) (E:Value->Shared->Prop),Inv X pins σ H s->(∀ b∈fp,tG X pins H b)->tn i s.heap->J.stop i H ->
  wpAny (model P w) X.A (pyNext (.ref it)) (fun r s1=>r=none/\Inv X pins σ H s1) E s
 self:∀ (A:Around) (i:Nat) (s:Shared) (Q:Value->Shared->Prop) (E:Value->Shared->Prop),tn i s.heap->Q (.ref it) s->wpAny (model P w) A (pyIter (.ref it)) Q E s
abbrev TI:=St->Hp->(It->Hp->Prop)->Prop
def Q1 (X:Cx) (pins:List (Addr × Obj)) (σ:St) (tg:Expr) (R:It->Hp->Prop) (itv:Value) (s2:Shared):Prop :=
 ∃ (it:Addr) (fp:List Addr) (tn:Nat->Heap->Prop) (J:It) (H':Hp),itv=.ref it/\Inv X pins σ H' s2/\Turn X.prog X.w X.K tg J fp it tn/\tn 0 s2.heap/\(∀ b∈fp,tG X pins H' b)/\R J H'
def PI (X:Cx) (tg iter:Expr) (wi:TI):Prop :=
 ∀ (pins:List (Addr × Obj)) (s:Shared) (σ:St) (H:Hp) (R:It->Hp->Prop),Inv X pins σ H s->wi σ H R ->
  wpAny (model X.prog X.w) X.A (eval iter X.env) (fun v s1=>wpAny (model X.prog X.w) X.A (pyIter v) (Q1 X pins σ tg R) X.xe s1) X.xe s
theorem AM {M:Model} {A:Around} {E:Value->Shared->Prop} {s:Shared} {tg:Expr} {it:Addr} {u:Value} {o:Obj} {n:String} {vs:Array Value} {Q:Unit->Shared->Prop} (ho:s.heap.get? it=some o) (hc:o.cls=.type n) (hd:o.data=.fields vs)
    (hn:["enumerate","zip","dict_itemiterator","dict_reverseitemiterator","odict_iterator","itertools.zip_longest","itertools.pairwise"].contains n=false) (hQ:Q () s):wpAny M A (letOwnedTupleGo tg (.ref it) u) Q E s:=by
  unfold letOwnedTupleGo
  cases tg <;> first
    | exact wpAny_pure hQ
    | (cases u <;> first
        | exact wpAny_pure hQ
        | (refine wpAny_bind (wpAny_load ho ?_)
           rw [hc,hd]
           show wpAny M A (if (["enumerate","zip","dict_itemiterator","dict_reverseitemiterator","odict_iterator","itertools.zip_longest","itertools.pairwise"].contains n && vs[0]? == some (rawInt _))=true then _ else _) Q E s
           rw [if_neg (by intro h;rw [hn,Bool.false_and] at h;cases h)]
           exact wpAny_pure hQ))
def Lj (K:PySem.W.Frag) (a:Addr):It :=
 ⟨fun i H=>∃ xs x,eO K H a xs/\xs[i]?=some x,fun i H x H'=>H'=H/\∀ xs,eO K H a xs->xs[i]?=some x,fun i H=>∃ xs,eO K H a xs/\xs.length<=i⟩
def Pw (K:PySem.W.Frag) (a:Addr):It :=
 ⟨fun i H=>∃ xs x,fW K H a xs/\xs[i]?=some x,fun i H x H'=>H'=H/\∀ xs,fW K H a xs->xs[i]?=some x,fun i H=>∃ xs,fW K H a xs/\xs.length<=i⟩
def Lu (lo:Int) (n:Nat):It:=⟨fun i _=>i < n,fun i H x H'=>H'=H/\x=.int (lo + i),fun i _=>n<=i⟩
theorem GU {P:Program} {w:World} {K:PySem.W.Frag} {tg:Expr} (a it:Addr):Turn P w K tg (Lj K a) [it] it (fun i h=>h.IsListIter it a i) where
 mem:=by simp
 obj:=fun i h st b hb=>by
  have e:b=it:=by simpa using hb
  subst e
  obtain ⟨o,e,c,d⟩:=st
  exact ⟨o,e,fun v z=>by rw [d] at z;cases z⟩
 keep:=fun i h h' st k=>st.at fun o e=>k it (by simp) o e
 item:=by
  intro X hP hw hK hc i pins s σ H E I hf st hg
  subst hP hw hK
  obtain ⟨xs,x,hq,hx⟩:=hg
  obtain ⟨its,rv,p,hz⟩:=I.list hq
  obtain ⟨u,hu,ru⟩:=rv.get hx
  obtain ⟨f0,f1,f2,f3,f4,f5⟩:=hf it (by simp)
  refine wpAny_pyNext_list_item st p.isList (x:=u) (by simpa using hu) fun h' st' sb=>?_
  have I1:Inv X pins σ H { s with heap:=h' }:=I.turned (t':=s.toks) (fun b o hb e=>(sb.2 b hb).trans e) f0 f1 f3 f4 f5
  obtain ⟨o,e,c,d⟩:=id st'
  exact ⟨u,rfl,AM (s:={ s with heap:=h' }) e c d (by decide) ⟨x,H,I1,ru,⟨rfl,fun ys hy=>by rw [I.list_inj hy hq];exact hx⟩,st',fun b hb=>(hf b hb).1⟩⟩
 done:=by
  intro X hP hw hK hc i pins s σ H E I hf st hg
  subst hP hw hK
  obtain ⟨xs,hq,hx⟩:=hg
  obtain ⟨its,rv,p,hz⟩:=I.list hq
  obtain ⟨f0,f1,f2,f3,f4,f5⟩:=hf it (by simp)
  have hl:=rv.length
  exact wpAny_pyNext_list_end (I.ok.hd hc) st p.isList (by simp;omega) fun h' eb=>⟨rfl,I.turned (t':=s.toks) (fun b o hb e=>eb b o hb e) f0 f1 f3 f4 f5⟩
 self:=fun _ _ _ _ _ st h=>wpAny_pyIter_listiter st h
theorem Ff {P:Program} {w:World} {K:PySem.W.Frag} {tg:Expr} (a it:Addr):Turn P w K tg (Pw K a) [it] it (fun i h=>h.IsTupleIter it a i) where
 mem:=by simp
 obj:=fun i h st b hb=>by
  have e:b=it:=by simpa using hb
  subst e
  obtain ⟨o,e,c,d⟩:=st
  exact ⟨o,e,fun v z=>by rw [d] at z;cases z⟩
 keep:=fun i h h' st k=>st.at fun o e=>k it (by simp) o e
 item:=by
  intro X hP hw hK hc i pins s σ H E I hf st hg
  subst hP hw hK
  obtain ⟨xs,x,hq,hx⟩:=hg
  obtain ⟨its,rv,p,hz⟩:=I.tuple hq
  obtain ⟨u,hu,ru⟩:=rv.get hx
  obtain ⟨f0,f1,f2,f3,f4,f5⟩:=hf it (by simp)
  refine wpAny_pyNext_tuple_item st (show s.heap.IsTuple a its.toArray from p) (x:=u) (by simpa using hu) fun h' st' sb=>?_
  have I1:Inv X pins σ H { s with heap:=h' }:=I.turned (t':=s.toks) (fun b o hb e=>(sb.2 b hb).trans e) f0 f1 f3 f4 f5
  obtain ⟨o,e,c,d⟩:=id st'
  exact ⟨u,rfl,AM (s:={ s with heap:=h' }) e c d (by decide) ⟨x,H,I1,ru,⟨rfl,fun ys hy=>by rw [I.tuple_inj hy hq];exact hx⟩,st',fun b hb=>(hf b hb).1⟩⟩
 done:=by
  intro X hP hw hK hc i pins s σ H E I hf st hg
  subst hP hw hK
  obtain ⟨xs,hq,hx⟩:=hg
  obtain ⟨its,rv,p,hz⟩:=I.tuple hq
  obtain ⟨f0,f1,f2,f3,f4,f5⟩:=hf it (by simp)
  have hl:=rv.length
  exact wpAny_pyNext_tuple_end (I.ok.hd hc) st (show s.heap.IsTuple a its.toArray from p) (by simp;omega) fun h' eb=>⟨rfl,I.turned (t':=s.toks) (fun b o hb e=>eb b o hb e) f0 f1 f3 f4 f5⟩
 self:=fun _ _ _ _ _ st h=>wpAny_pyIter_tupleiter st h
theorem Fy {P:Program} {w:World} {K:PySem.W.Frag} {tg:Expr} (it:Addr) (lo:Int) (n:Nat):Turn P w K tg (Lu lo n) [it] it (fun i h=>IsRangeIter h it (lo + (i:Nat) * 1) ((n:Int) - (i:Nat)) 1) where
 mem:=by simp
 obj:=fun i h st b hb=>by
  have e:b=it:=by simpa using hb
  subst e
  exact ⟨_,st,fun v z=>by
   have z':Data.fields _=Data.cell v:=z
   cases z'⟩
 keep:=fun i h h' st k=>k it (by simp) _ st
 item:=by
  intro X hP hw hK hc i pins s σ H E I hf st hg
  subst hP hw hK
  obtain ⟨f0,f1,f2,f3,f4,f5⟩:=hf it (by simp)
  have W:=Walks.range (prog:=X.prog) (w:=X.w) (I.ok.hd hc) it lo 1 n
  refine W.item i s _ _ hg st fun v h' tk hv st' kk=>?_
  obtain ⟨t,rfl⟩:=hv
  have I1:Inv X pins σ H { s with heap:=h',toks:=tk }:=I.turned (fun b o hb e=>kk b o (by simpa using hb) e) f0 f1 f3 f4 f5
  refine ⟨_,rfl,AM (s:={ s with heap:=h',toks:=tk }) (n:="range_iterator") st' rfl rfl (by decide) ⟨.int (lo + i),H,I1,⟨t,?_⟩,⟨rfl,rfl⟩,st',fun b hb=>(hf b hb).1⟩⟩
  rw [Int.mul_one]
 done:=by
  intro X hP hw hK hc i pins s σ H E I hf st hg
  subst hP hw hK
  obtain ⟨f0,f1,f2,f3,f4,f5⟩:=hf it (by simp)
  exact wpAny_pyNext_range_end (I.ok.hd hc) st (by have:n<=i:=hg;omega) fun h' eb=>⟨rfl,I.turned (t':=s.toks) (fun b o hb e=>eb b o hb e) f0 f1 f3 f4 f5⟩
 self:=fun _ _ _ _ _ st h=>wpAny_pyIter_rangeiter st h
section
variable {X:Cx} {tg:Expr}
theorem KI {pins:List (Addr × Obj)} {σ:St} {H:Hp} {s:Shared} {R:It->Hp->Prop} {E:Value->Shared->Prop} {lo hi:Int} {t u v:Tok} {tk:Nat} (I:Inv X pins σ H s) (h1:-(2 ^ 62)<=lo) (h2:lo < 2 ^ 62) (h3:-(2 ^ 62)<=hi) (h4:hi < 2 ^ 62)
  (q:R (Lu lo (hi - lo).toNat) H):wpAny (model X.prog X.w) X.A (pyIter (.ref s.heap.objs.size)) (Q1 X pins σ tg R) E { s with heap:=s.heap.push { cls:=.type "range",data:=.fields #[.int lo t,.int hi u,.int 1 v] },toks:=tk }:=by
 refine wpAny_pyIter_range (IsRange.new ..) (small_one h1 h2 h3 h4) ?_
 have I1:Inv X pins σ H { s with heap:=s.heap.push { cls:=.type "range",data:=.fields #[.int lo t,.int hi u,.int 1 v] },toks:=tk }:=I.kept fun b o e=>Heap.get?_push_of_some _ e
 refine ⟨(s.heap.push { cls:=.type "range",data:=.fields #[.int lo t,.int hi u,.int 1 v] }).objs.size,[(s.heap.push { cls:=.type "range",data:=.fields #[.int lo t,.int hi u,.int 1 v] }).objs.size],_,_,H,rfl,
  I1.kept (t':=tk) fun b o e=>Heap.get?_push_of_some _ e,Fy _ lo (hi - lo).toNat,?_,fun b hb=>?_,q⟩
 ·have e1:lo + ((0:Nat):Int) * 1=lo:=by simp
  have e2:(((hi - lo).toNat:Nat):Int) - ((0:Nat):Int)=Builtin.Range.rangeSize lo hi 1:=by rw [rangeSize_one];split <;> omega
  show IsRangeIter _ _ (lo + ((0:Nat):Int) * 1) ((((hi - lo).toNat:Nat):Int) - ((0:Nat):Int)) 1
  rw [e1,e2]
  exact Heap.get?_push_size _ rfl
 ·have e:b=(s.heap.push { cls:=.type "range",data:=.fields #[.int lo t,.int hi u,.int 1 v] }).objs.size:=by simpa using hb
  subst e
  exact I1.fpOk (Nat.le_refl _) (I1.hok.fresh (Nat.le_refl _))
def Lp (ta:TA):TI:=fun σ H R=>ta σ H fun vs H1=>∃ j:Int,vs=[.int j]/\-(2 ^ 62)<=j/\j < 2 ^ 62/\R (Lu 0 j.toNat) H1
theorem Ib {a:Expr} {ta:TA} {p pos:Pos} (hg:Gl X "range") (hm:X.mg "range"=none) (ha:PA X [a] ta) (hs:starEach [a] X.env=[(false,eval a X.env)]:=by rfl):PI X tg (.Call (.Name "range" p) [a] [] pos) (Lp ta):=by
 intro pins s σ H R I h
 refine Call_ (jO I hg hm boot_range (PyProof.Rows.callWith_type1 (bG (ha pos pins s σ H _ I h) fun us s1 ⟨vs,H1,I1,r1,q1⟩=>?_) hs rfl))
 obtain ⟨j,e,q1,q2,q⟩:=q1
 subst e
 cases r1 with
 | cons r rr =>
  cases rr
  obtain ⟨t,rfl⟩:=r
  exact call_range_1 (KI I1 (by omega) (by omega) q1 q2 (by simpa using q))
def Pz (wi:TI) (g:TG) (tb:TS):TS:=fun D σ H=>wi σ H fun J H1=>∃ W:Nat->Nat->St->Hp->Prop,(∃ m,W 0 m σ H1)/\∀ i m σ H,W i m σ H ->
 (J.stop i H/\D.nx σ H)\/(J.go i H/\∃ N:St->Hp->Prop,(∀ σ' H',N σ' H'->∃ m',m' < m/\W (i + 1) m' σ' H')/\∀ x H',J.yld i H x H'->g x σ H' fun σ2 H2=>tb { D with nx:=N,ct:=N,bk:=D.nx } σ2 H2)
def uQ (fp:List Addr) (h:Heap):List (Addr × Obj):=fp.filterMap fun b=>(h.get? b).map fun o=>(b,o)
theorem o9 {fp:List Addr} {h:Heap} {b:Addr} {o:Obj} (hb:b∈fp) (e:h.get? b=some o):(b,o)∈uQ fp h:=List.mem_filterMap.mpr ⟨b,hb,by rw [e];rfl⟩
theorem Hu {fp:List Addr} {h:Heap} {p:Addr × Obj} (hp:p∈uQ fp h):p.1∈fp/\h.get? p.1=some p.2:=by
 obtain ⟨b,hb,e⟩:=List.mem_filterMap.mp hp
 cases q:h.get? b with
 | none=>rw [q] at e;cases e
 | some o =>
  rw [q] at e
  have e':(b,o)=p:=Option.some.inj e
  subst e'
  exact ⟨hb,q⟩
theorem Inv.pinned {pins:List (Addr × Obj)} {σ:St} {H:Hp} {s:Shared} {fp:List Addr} (I:Inv X pins σ H s) (hf:∀ b∈fp,tG X pins H b) (ho:∀ b∈fp,∃ o,s.heap.get? b=some o/\∀ v,o.data≠.cell v):Inv X (pins++uQ fp s.heap) σ H s :=
 I.pins_of fun p hp=>(List.mem_append.mp hp).elim (fun z=>I.pin p (List.mem_append_right _ z)) fun z=>by
  obtain ⟨hb,e⟩:=Hu z
  obtain ⟨f0,f1,f2,_⟩:=hf p.1 hb
  obtain ⟨o,e',d⟩:=ho p.1 hb
  rw [e] at e';cases e'
  exact ⟨e,f0,f1,f2,d⟩
theorem Inv.unpinned {pins pl:List (Addr × Obj)} {σ:St} {H:Hp} {s:Shared} (I:Inv X (pins++pl) σ H s):Inv X pins σ H s:=I.pins_of fun p hp=>I.pin p (List.mem_append_right _ (List.mem_append_left _ hp))
theorem NN {iter:Expr} {body:List Stmt} {wi:TI} {g:TG} {tb:TS} {pos:Pos} (hp:PassesOwn (model X.prog X.w) X.A X.env X.xe) (hc:X.calm=true) (hi:PI X tg iter wi) (hg:PG X tg g) (hb:pF X body tb)
  (hs:∀ x,foldedSetIterable iter X.env x=pure x:=by intro _;rfl):PS X (.For tg iter body [] pos) (Pz wi g tb):=by
 intro pins s σ H D I h
 refine wpAny_For (bG (hi pins s σ H _ I h) fun v s1 h1=>bG h1 fun itv s2 h2=>?_) hs
 obtain ⟨it,fp,tn,J,H2,e,I2,T,st2,f2,W,⟨m0,w0⟩,turn⟩:=h2
 subst e
 have stat:∀ {H':Hp},(∀ b∈fp,H' b=none)->∀ b∈fp,tG X pins H' b:=fun hn b hb=>⟨hn b hb,(f2 b hb).2⟩
 refine codeAny_forLoop_any (fun n s'=>∃ i σ' H',Inv X pins σ' H' s'/\tn i s'.heap/\(∀ b∈fp,H' b=none)/\W i n σ' H') ?_ m0 ⟨0,σ,H2,I2,st2,fun b hb=>(f2 b hb).1,w0⟩
 rintro n s3 ⟨i,σ3,H3,I3,st3,fr3,w3⟩
 rcases turn i n σ3 H3 w3 with ⟨stop,qn⟩ | ⟨go,N,hN,step⟩
 ·refine wpAny_passesOwn hp (bG (T.done X rfl rfl rfl hc i pins s3 σ3 H3 X.xe I3 (stat fr3) st3 stop) fun r s4 ⟨hr,I4⟩=>?_)
  subst hr
  exact wpAny_execs_nil ⟨σ3,H3,I4,qn⟩
 ·refine wpAny_passesOwn hp (bG (T.item X rfl rfl rfl hc i pins s3 σ3 H3 X.xe I3 (stat fr3) st3 go) fun r s4 ⟨u,hr,h4⟩=>?_)
  subst hr
  refine wpAny_passesOwn hp (bG h4 fun _ s5 ⟨x,H5,I5,r5,y5,st5,fr5⟩=>?_)
  have I5':=I5.pinned (stat fr5) (T.obj _ _ st5)
  refine wpAny_passesOwn hp (bG (hg _ s5 σ3 H5 x u _ I5' r5 (step x H5 y5)) fun _ s6 ⟨σ6,H6,I6,q6⟩=>?_)
  refine wpAny_passesOwn hp (bG (hb _ s6 σ6 H6 _ I6 q6) fun f s7 q7=>?_)
  have again:∀ {σ7:St} {H7:Hp},Inv X (pins++uQ fp s5.heap) σ7 H7 s7->N σ7 H7->∃ m,m < n/\∃ i σ' H',Inv X pins σ' H' s7/\tn i s7.heap/\(∀ b∈fp,H' b=none)/\W i m σ' H':=fun {σ7 H7} I7 n7=>by
   obtain ⟨m',hm,w7⟩:=hN σ7 H7 n7
   refine ⟨m',hm,i + 1,σ7,H7,I7.unpinned,T.keep _ _ _ st5 fun b hb o e=>(I7.pin (b,o) (List.mem_append_right _ (List.mem_append_right _ (o9 hb e)))).1,fun b hb=>?_,w7⟩
   obtain ⟨o,e,d⟩:=T.obj _ _ st5 b hb
   exact (I7.pin (b,o) (List.mem_append_right _ (List.mem_append_right _ (o9 hb e)))).2.1
  cases f with
  | next=>obtain ⟨σ7,H7,I7,n7⟩:=q7;exact again I7 n7
  | cont=>obtain ⟨σ7,H7,I7,n7⟩:=q7;exact again I7 n7
  | brk=>obtain ⟨σ7,H7,I7,q7⟩:=q7;exact ⟨σ7,H7,I7.unpinned,q7⟩
  | ret v=>obtain ⟨x7,σ7,H7,I7,r7,q7⟩:=q7;exact ⟨x7,σ7,H7,I7.unpinned,r7,q7⟩
end
abbrev R2:=V->V->Hp->VK->Prop
def dG (X:Cx) (f:Value->Value->Sem Value) (r:R2):Prop :=
 ∀ (pins:List (Addr × Obj)) (s:Shared) (σ:St) (H:Hp) (x y:V) (v u:Value) (Q:VK),Inv X pins σ H s->RelV x v->RelV y u->r x y H Q ->
  wpAny (model X.prog X.w) X.A (f v u) (EP X pins σ Q) X.xe s
def NW (X:Cx) (f:Value->Sem Value) (r:V->Hp->VK->Prop):Prop :=
 ∀ (pins:List (Addr × Obj)) (s:Shared) (σ:St) (H:Hp) (x:V) (v:Value) (Q:VK),Inv X pins σ H s->RelV x v->r x H Q ->
  wpAny (model X.prog X.w) X.A (f v) (EP X pins σ Q) X.xe s
def iB (X:Cx) (f:Value) (r:List V->Hp->VK->Prop):Prop :=
 ∀ (pins:List (Addr × Obj)) (s:Shared) (σ:St) (H:Hp) (xs:List V) (us:List Value) (Q:VK),Inv X pins σ H s->Vals xs us->r xs H Q ->
  wpAny (model X.prog X.w) X.A (call f us) (EP X pins σ Q) X.xe s
def Rm (X:Cx) (r:V->Hp->(Bool->Hp->Prop)->Prop):Prop :=
 ∀ (pins:List (Addr × Obj)) (s:Shared) (σ:St) (H:Hp) (x:V) (v:Value) (Q:Bool->Hp->Prop),Inv X pins σ H s->RelV x v->r x H Q ->
  wpAny (model X.prog X.w) X.A (truthy v) (TP X pins σ Q) X.xe s
def Bx (r:R2) (ta tb:TE):TE:=fun σ H Q=>ta σ H fun x H1=>tb σ H1 fun y H2=>r x y H2 Q
def Rb (r:V->Hp->VK->Prop) (ta:TE):TE:=fun σ H Q=>ta σ H fun x H1=>r x H1 Q
def rI (C:Int->Int->Prop) (g:Int->Int->V):R2:=fun x y H Q=>∃ i j,x=.int i/\y=.int j/\C i j/\Q (g i j) H
def tW (g:Int->Int->V):R2:=fun x y H Q=>∃ i j,x=.int i/\y=.int j/\Q (g i j) H
def rU (g:Int->V):V->Hp->VK->Prop:=fun x H Q=>∃ i,x=.int i/\Q (g i) H
section
variable {X:Cx} {a b c:Expr} {ta tb tc:TE} {pos:Pos}
theorem Gm (ha:PE X a ta) (hb:PE X b tb) {pins:List (Addr × Obj)} {s:Shared} {σ:St} {H:Hp} {R:V->V->Hp->Prop} (I:Inv X pins σ H s)
  (h:ta σ H fun x H1=>tb σ H1 fun y H2=>R x y H2) {Q:Value->Shared->Prop} {f:Value->Value->Sem Value}
  (hf:∀ v u s2 x y H2,Inv X pins σ H2 s2->RelV x v->RelV y u->R x y H2->wpAny (model X.prog X.w) X.A (f v u) Q X.xe s2) :
  wpAny (model X.prog X.w) X.A (eval a X.env) (fun v s₁=>wpAny (model X.prog X.w) X.A (eval b X.env) (fun u s₂=>wpAny (model X.prog X.w) X.A (f v u) Q X.xe s₂) X.xe s₁) X.xe s:=by
 refine bG (ha pins s σ H _ I h) fun v s1 ⟨x,H1,I1,r1,q1⟩=>?_
 refine bG (hb pins s1 σ H1 _ I1 q1) fun u s2 ⟨y,H2,I2,r2,q2⟩=>?_
 exact hf v u s2 x y H2 I2 r1 r2 q2
theorem QE {op:Operator} {r:R2} (ho:dG X (binaryOp op) r) (ha:PE X a ta) (hb:PE X b tb):PE X (.BinOp a op b pos) (Bx r ta tb):=by
 intro pins s σ H Q I h
 exact wpAny_BinOp (Gm ha hb I h fun v u s2 x y H2 I2 rx ry q=>ho pins s2 σ H2 x y v u Q I2 rx ry q)
theorem QI {op:UnaryOp} {r:V->Hp->VK->Prop} (ho:NW X (unaryOp op) r) (ha:PE X a ta):PE X (.UnaryOp op a pos) (Rb r ta):=by
 intro pins s σ H Q I h
 exact UnaryOp_ (bG (ha pins s σ H _ I h) fun v s1 ⟨x,H1,I1,r1,q1⟩=>ho pins s1 σ H1 x v Q I1 r1 q1)
theorem Lw {f:Value->Value->Sem Value} {C:Int->Int->Prop} {g:Int->Int->Int}
  (rule:∀ (i j:Int) (t u:Tok) (s:Shared) (Q:Value->Shared->Prop) (E:Value->Shared->Prop),C i j->Q (.int (g i j) s.toks) { s with toks:=s.toks + 1 }->wpAny (model X.prog X.w) X.A (f (.int i t) (.int j u)) Q E s) :
  dG X f (rI C fun i j=>.int (g i j)):=by
 intro pins s σ H x y v u Q I rx ry h
 obtain ⟨i,j,rfl,rfl,hc,q⟩:=h
 obtain ⟨t,rfl⟩:=rx
 obtain ⟨t',rfl⟩:=ry
 exact rule i j t t' s _ _ hc ⟨.int (g i j),H,I.tok _,⟨_,rfl⟩,q⟩
theorem PV {f:Value->Value->Sem Value} {g:Int->Int->Int}
  (rule:∀ (i j:Int) (t u:Tok) (s:Shared) (Q:Value->Shared->Prop) (E:Value->Shared->Prop),Q (.int (g i j) s.toks) { s with toks:=s.toks + 1 }->wpAny (model X.prog X.w) X.A (f (.int i t) (.int j u)) Q E s) :
  dG X f (tW fun i j=>.int (g i j)):=by
 intro pins s σ H x y v u Q I rx ry h
 obtain ⟨i,j,rfl,rfl,q⟩:=h
 obtain ⟨t,rfl⟩:=rx
 obtain ⟨t',rfl⟩:=ry
 exact rule i j t t' s _ _ ⟨.int (g i j),H,I.tok _,⟨_,rfl⟩,q⟩
theorem Eh {f:Value->Value->Sem Value} {g:Int->Int->Bool}
  (rule:∀ (i j:Int) (t u:Tok) (s:Shared) (Q:Value->Shared->Prop) (E:Value->Shared->Prop),Q (.bool (g i j)) s->wpAny (model X.prog X.w) X.A (f (.int i t) (.int j u)) Q E s) :
  dG X f (tW fun i j=>.bl (g i j)):=by
 intro pins s σ H x y v u Q I rx ry h
 obtain ⟨i,j,rfl,rfl,q⟩:=h
 obtain ⟨t,rfl⟩:=rx
 obtain ⟨t',rfl⟩:=ry
 exact rule i j t t' s _ _ ⟨.bl (g i j),H,I,rfl,q⟩
def Fs (i j:Int):Prop:=0<=j/\j<=1000000/\i.natAbs < 2 ^ 64
def IV (i j:Int):Prop:=(-(2 ^ 64) < i/\i < 2 ^ 64)\/(-(2 ^ 64) < j/\j < 2 ^ 64)
theorem IV.ok {i j:Int} (h:IV i j):IntMulOk i j:=by
 rcases h with ⟨h1,h2⟩ | ⟨h1,h2⟩
 ·exact .of_left (intBits_le_64 h1 h2)
 ·exact .of_right (intBits_le_64 h1 h2)
theorem Qg (k:Nat):(0:Int)<=2 ^ k:=by
 rw [two_pow_cast]
 exact Int.natCast_nonneg _
theorem Of:dG X (binaryOp .Add) (tW fun i j=>.int (i + j)):=PV fun _ _ _ _ _ _ _ q=>add_int q
theorem N5:dG X (binaryOp .Sub) (tW fun i j=>.int (i - j)):=PV fun _ _ _ _ _ _ _ q=>sub_int q
theorem PJ:dG X (binaryOp .Mod) (rI (fun _ j=>0 < j) fun i j=>.int (i % j)):=Lw fun i j _ _ _ _ _ hc q=>by
 have h1:(0:Int) < j:=hc
 exact mod_int' (by omega) (by rw [Int.fmod_eq_emod_of_nonneg i (by omega)];exact q)
theorem PF:dG X (binaryOp .Pow) (rI Fs fun i j=>.int (i ^ j.toNat)):=Lw fun _ _ _ _ _ _ _ hc q=>pow_int_small hc.1 hc.2.1 hc.2.2 q
theorem RK {f:Value->Sem Value} {g:Int->Int}
  (rule:∀ (i:Int) (t:Tok) (s:Shared) (Q:Value->Shared->Prop) (E:Value->Shared->Prop),Q (.int (g i) s.toks) { s with toks:=s.toks + 1 }->wpAny (model X.prog X.w) X.A (f (.int i t)) Q E s) :
  NW X f (rU fun i=>.int (g i)):=by
 intro pins s σ H x v Q I rx h
 obtain ⟨i,rfl,q⟩:=h
 obtain ⟨t,rfl⟩:=rx
 exact rule i t s _ _ ⟨.int (g i),H,I.tok _,⟨_,rfl⟩,q⟩
theorem Oq:NW X (unaryOp .USub) (rU fun i=>.int (-i)):=RK fun _ _ _ _ _ q=>neg_int q
end
def Ew:V->V->Bool
 | .non,.non=>true | .non,.int _=>true | .int _,.non=>true | .non,.bl _=>true | .bl _,.non=>true | .non,.str _=>true | .str _,.non=>true
 | .int _,.int _=>true | .bl _,.bl _=>true | .str _,.str _=>true | .byt _,.byt _=>true
 | .int _,.str _=>true | .str _,.int _=>true | .bl _,.str _=>true | .str _,.bl _=>true
 | _,_=>false
def Ry:R2:=fun x y H Q=>Ew x y=true/\Q (.bl (decide (x=y))) H
def RJ:R2:=fun x y H Q=>Ew x y=true/\Q (.bl (!decide (x=y))) H
theorem D4 {i j:Int}:decide (V.int i=V.int j)=(i == j):=by
 rw [Bool.eq_iff_iff]
 simp
theorem HV {i j:Bool}:decide (V.bl i=V.bl j)=(i == j):=by
 rw [Bool.eq_iff_iff]
 simp
theorem DJ {i j:Str}:decide (V.str i=V.str j)=(i == j):=by
 rw [Bool.eq_iff_iff]
 simp
theorem Dz {i j:Array UInt8}:decide (V.byt i=V.byt j)=(i.toList == j.toList):=by
 rw [Bool.eq_iff_iff]
 cases i
 cases j
 simp
section
variable {X:Cx} {a b c:Expr} {ta tb tc:TE} {pos:Pos}
theorem b9 {pins:List (Addr × Obj)} {σ:St} {H:Hp} {s:Shared} {Q:VK} {k k':Bool} (I:Inv X pins σ H s) (q:Q (.bl k) H) (e:k=k'):EP X pins σ Q (.bool k') s:=by
 subst e
 exact ⟨.bl k,H,I,rfl,q⟩
theorem Qe:dG X (compareOp .Eq) Ry:=by
 intro pins s σ H x y v u Q I rx ry h
 obtain ⟨hs,q⟩:=h
 cases x with
 | non =>
  cases rx
  cases y with
  | non=>cases ry;exact PySem.EqNone.eq_none_none (b9 I q (by simp))
  | bl j=>cases ry;exact PySem.EqNone.eq_none_bool (b9 I q (by simp))
  | int j=>obtain ⟨t',rfl⟩:=ry;exact PySem.EqNone.eq_none_int (b9 I q (by simp))
  | str j=>obtain ⟨t',rfl⟩:=ry;exact PySem.EqNone.eq_none_str (b9 I q (by simp))
  | _=>exact absurd (show false=true from hs) Bool.false_ne_true
 | bl i =>
  cases rx
  cases y with
  | non=>cases ry;exact PySem.EqNone.eq_bool_none (b9 I q (by simp))
  | bl j=>cases ry;exact eq_bool (b9 I q HV)
  | str j=>obtain ⟨t',rfl⟩:=ry;exact PySem.EqMixed.eq_bool_str (b9 I q (by simp))
  | _=>exact absurd (show false=true from hs) Bool.false_ne_true
 | int i =>
  obtain ⟨t,rfl⟩:=rx
  cases y with
  | non=>cases ry;exact PySem.EqNone.eq_int_none (b9 I q (by simp))
  | int j=>obtain ⟨t',rfl⟩:=ry;exact eq_int (b9 I q D4)
  | str j=>obtain ⟨t',rfl⟩:=ry;exact PySem.EqMixed.eq_int_str (b9 I q (by simp))
  | _=>exact absurd (show false=true from hs) Bool.false_ne_true
 | str i =>
  obtain ⟨t,rfl⟩:=rx
  cases y with
  | non=>cases ry;exact PySem.EqNone.eq_str_none (b9 I q (by simp))
  | bl j=>cases ry;exact PySem.EqMixed.eq_str_bool (b9 I q (by simp))
  | int j=>obtain ⟨t',rfl⟩:=ry;exact PySem.EqMixed.eq_str_int (b9 I q (by simp))
  | str j=>obtain ⟨t',rfl⟩:=ry;exact eq_str (b9 I q DJ)
  | _=>exact absurd (show false=true from hs) Bool.false_ne_true
 | byt i =>
  obtain ⟨t,rfl⟩:=rx
  cases y with
  | byt j=>obtain ⟨t',rfl⟩:=ry;exact PySem.W.eq_bytes (b9 I q Dz)
  | _=>exact absurd (show false=true from hs) Bool.false_ne_true
 | _=>cases y <;> exact absurd (show false=true from hs) Bool.false_ne_true
theorem QN:dG X (compareOp .NotEq) RJ:=by
 intro pins s σ H x y v u Q I rx ry h
 obtain ⟨hs,q⟩:=h
 cases x with
 | non =>
  cases rx
  cases y with
  | non=>cases ry;exact PySem.EqNone.ne_none_none (b9 I q (by simp))
  | bl j=>cases ry;exact PySem.EqNone.ne_none_bool (b9 I q (by simp))
  | int j=>obtain ⟨t',rfl⟩:=ry;exact PySem.EqNone.ne_none_int (b9 I q (by simp))
  | str j=>obtain ⟨t',rfl⟩:=ry;exact PySem.EqNone.ne_none_str (b9 I q (by simp))
  | _=>exact absurd (show false=true from hs) Bool.false_ne_true
 | bl i =>
  cases rx
  cases y with
  | non=>cases ry;exact PySem.EqNone.ne_bool_none (b9 I q (by simp))
  | bl j=>cases ry;exact ne_bool (b9 I q (congrArg not HV))
  | str j=>obtain ⟨t',rfl⟩:=ry;exact PySem.EqMixed.ne_bool_str (b9 I q (by simp))
  | _=>exact absurd (show false=true from hs) Bool.false_ne_true
 | int i =>
  obtain ⟨t,rfl⟩:=rx
  cases y with
  | non=>cases ry;exact PySem.EqNone.ne_int_none (b9 I q (by simp))
  | int j=>obtain ⟨t',rfl⟩:=ry;exact ne_int (b9 I q (congrArg not D4))
  | str j=>obtain ⟨t',rfl⟩:=ry;exact PySem.EqMixed.ne_int_str (b9 I q (by simp))
  | _=>exact absurd (show false=true from hs) Bool.false_ne_true
 | str i =>
  obtain ⟨t,rfl⟩:=rx
  cases y with
  | non=>cases ry;exact PySem.EqNone.ne_str_none (b9 I q (by simp))
  | bl j=>cases ry;exact PySem.EqMixed.ne_str_bool (b9 I q (by simp))
  | int j=>obtain ⟨t',rfl⟩:=ry;exact PySem.EqMixed.ne_str_int (b9 I q (by simp))
  | str j=>obtain ⟨t',rfl⟩:=ry;exact ne_str (b9 I q (congrArg not DJ))
  | _=>exact absurd (show false=true from hs) Bool.false_ne_true
 | byt i =>
  obtain ⟨t,rfl⟩:=rx
  cases y with
  | byt j=>obtain ⟨t',rfl⟩:=ry;exact PySem.W.ne_bytes (b9 I q (congrArg not Dz))
  | _=>exact absurd (show false=true from hs) Bool.false_ne_true
 | _=>cases y <;> exact absurd (show false=true from hs) Bool.false_ne_true
theorem Qv:dG X (compareOp .Lt) (tW fun i j=>.bl (decide (i < j))):=Eh fun _ _ _ _ _ _ _ q=>lt_int q
theorem Qc:dG X (compareOp .LtE) (tW fun i j=>.bl (decide (i<=j))):=Eh fun _ _ _ _ _ _ _ q=>le_int q
theorem Qw:dG X (compareOp .Gt) (tW fun i j=>.bl (decide (j < i))):=Eh fun _ _ _ _ _ _ _ q=>gt_int q
theorem Qi:dG X (compareOp .GtE) (tW fun i j=>.bl (decide (j<=i))):=Eh fun _ _ _ _ _ _ _ q=>ge_int q
theorem GL:dG X (compareOp .In) (fun x y H Q=>∃ i j,x=.str i/\y=.str j/\Q (.bl (!(Builtin.Str.occurrences j i 0 j.length 1).isEmpty)) H):=by
 intro pins s σ H x y v u Q I rx ry h
 obtain ⟨i,j,rfl,rfl,q⟩:=h
 obtain ⟨t,rfl⟩:=rx
 obtain ⟨t',rfl⟩:=ry
 exact in_str (b9 I q rfl)
theorem PH:dG X (compareOp .Is) (fun x y H Q=>y=.non/\Q (.bl (decide (x=.non))) H):=by
 intro pins s σ H x y v u Q I rx ry h
 obtain ⟨rfl,q⟩:=h
 cases ry
 refine is_none_gen (b9 I q ?_)
 cases x <;> first
  | (cases rx;rfl)
  | (obtain ⟨t,rfl⟩:=rx;rfl)
theorem dG.or {f:Value->Value->Sem Value} {r r':R2} (h:dG X f r) (h':dG X f r'):dG X f (fun x y H Q=>r x y H Q\/r' x y H Q):=by
 intro pins s σ H x y v u Q I rx ry q
 rcases q with q | q
 ·exact h pins s σ H x y v u Q I rx ry q
 ·exact h' pins s σ H x y v u Q I rx ry q
theorem IB (b:Expr) {op:CmpOp} (h:op≠.In:=by decide) (h2:op≠.NotIn:=by decide):behindInMarks op b=false:=by
 have e1:(op == CmpOp.In)=false:=by cases op <;> first | rfl | exact absurd rfl h
 have e2:(op == CmpOp.NotIn)=false:=by cases op <;> first | rfl | exact absurd rfl h2
 cases b <;> simp [behindInMarks,e1,e2]
theorem Nf {op:CmpOp} {r:R2} (ho:dG X (compareOp op) r) (ha:PE X a ta) (hb:PE X b tb) (hm:behindInMarks op b=false):PE X (.Compare a [op] [b] pos) (Bx r ta tb):=by
 intro pins s σ H Q I h
 exact wpAny_Compare1 (Gm ha hb I h fun v u s2 x y H2 I2 rx ry q=>ho pins s2 σ H2 x y v u Q I2 rx ry q) hm
def Fc (t:TE):TT:=fun σ H Q=>t σ H fun x H'=>∃ k,x=.bl k/\Q k H'
theorem Nw {op:CmpOp} {r:R2} (ho:dG X (compareOp op) r) (ha:PE X a ta) (hb:PE X b tb) (hm:behindInMarks op b=false):PT X (.Compare a [op] [b] pos) (Fc (Bx r ta tb)):=by
 intro pins s σ H Q I h
 refine wpAny_isTrue_Compare1 (bG (ha pins s σ H _ I h) fun v s1 ⟨x,H1,I1,r1,q1⟩=>bG (hb pins s1 σ H1 _ I1 q1) fun u s2 ⟨y,H2,I2,r2,q2⟩ =>
  bG (ho pins s2 σ H2 x y v u _ I2 r1 r2 q2) fun c s3 ⟨z,H3,I3,r3,k,e,q3⟩=>?_) hm
 subst e
 cases r3
 exact wpAny_truthy_bool ⟨H3,I3,q3⟩
def Br (r r':R2) (ta tb tc:TE):TE:=fun σ H Q=>ta σ H fun x H1=>tb σ H1 fun y H2=>r x y H2 fun z H3=>∃ k,z=.bl k /\
 (if k=true then tc σ H3 fun w' H4=>r' y w' H4 Q else Q (.bl false) H3)
theorem JC {op op':CmpOp} {r r':R2} (ho:dG X (compareOp op) r) (ho':dG X (compareOp op') r') (ha:PE X a ta) (hb:PE X b tb) (hc:PE X c tc)
  (hm:lastMarks [op,op'] [b,c]=false:=by with_unfolding_all rfl):PE X (.Compare a [op,op'] [b,c] pos) (Br r r' ta tb tc):=by
 intro pins s σ H Q I h
 refine Compare_chain (bG (ha pins s σ H _ I h) fun v s1 ⟨x,H1,I1,r1,q1⟩=>chain_link (bG (hb pins s1 σ H1 _ I1 q1) fun u s2 ⟨y,H2,I2,r2,q2⟩ =>
  bG (ho pins s2 σ H2 x y v u _ I2 r1 r2 q2) fun d s3 ⟨z,H3,I3,r3,k,e,q3⟩=>?_)) hm
 subst e
 cases r3
 refine wpAny_truthy_bool ?_
 cases k with
 | false=>exact ite_ff ⟨.bl false,H3,I3,rfl,q3⟩
 | true=>exact ite_tt (chain_last (bG (hc pins s3 σ H3 _ I3 q3) fun w' s4 ⟨z',H4,I4,r4,q4⟩=>ho' pins s4 σ H4 y z' u w' Q I4 r2 r4 q4))
theorem IG {op op':CmpOp} {r r':R2} (ho:dG X (compareOp op) r) (ho':dG X (compareOp op') r') (ha:PE X a ta) (hb:PE X b tb) (hc:PE X c tc)
  (hm:lastMarks [op,op'] [b,c]=false:=by with_unfolding_all rfl):PT X (.Compare a [op,op'] [b,c] pos) (Fc (Br r r' ta tb tc)):=by
 intro pins s σ H Q I h
 refine isTrue_chain (bG (ha pins s σ H _ I h) fun v s1 ⟨x,H1,I1,r1,q1⟩=>test_link (bG (hb pins s1 σ H1 _ I1 q1) fun u s2 ⟨y,H2,I2,r2,q2⟩ =>
  bG (ho pins s2 σ H2 x y v u _ I2 r1 r2 q2) fun d s3 ⟨z,H3,I3,r3,k,e,q3⟩=>?_)) hm
 subst e
 cases r3
 refine wpAny_truthy_bool ?_
 cases k with
 | false =>
  obtain ⟨k',e',q'⟩:=q3
  cases e'
  exact ite_ff ⟨H3,I3,q'⟩
 | true =>
  refine ite_tt (test_last (bG (hc pins s3 σ H3 _ I3 q3) fun w' s4 ⟨z',H4,I4,r4,q4⟩=>bG (ho' pins s4 σ H4 y z' u w' _ I4 r2 r4 q4) fun d' s5 ⟨z2,H5,I5,r5,k2,e2,q5⟩=>?_))
  subst e2
  cases r5
  exact wpAny_truthy_bool ⟨H5,I5,q5⟩
def Kc (K:PySem.W.Frag) (x:V) (H:Hp) (k:Bool):Prop :=
 match x with
 | .non=>k=false
 | .bl b=>k=b
 | .int i=>k=(i != 0)
 | .str y=>y.length<=sizeLine/\k=((y.length:Int) != 0)
 | .byt y=>y.size<=sizeLine/\k=((y.size:Int) != 0)
 | .ref p=>(∃ xs,eO K H p xs/\k=!xs.isEmpty)\/(∃ xs,fW K H p xs/\k=!xs.isEmpty)\/∃ kvs,H p=some (.dK kvs)/\k=!kvs.isEmpty
 | _=>False
theorem EX {κ:Type} {kvs:List (κ × V)} {vs:List (κ × Value)} (r:KV kvs vs):(!vs.isEmpty)=!kvs.isEmpty:=by
 cases r <;> rfl
theorem xM {xs:List V} {its:List Value} (r:Vals xs its):(!its.toArray.isEmpty)=!xs.isEmpty:=by
 cases r <;> simp
theorem uT:(sizeLine:Nat) < 2 ^ 63:=by rw [sizeLine_eq];decide
theorem Oc:Rm X (fun x H Q=>∃ k,Kc X.K x H k/\Q k H):=by
 intro pins s σ H x v Q I rx h
 obtain ⟨k,e,q⟩:=h
 have hl:=uT
 have hs:sizeLine=16777216:=sizeLine_eq
 cases x with
 | non =>
  cases rx
  have e':k=false:=e
  subst e'
  exact truthy_none ⟨H,I,q⟩
 | bl b =>
  cases rx
  have e':k=b:=e
  subst e'
  exact wpAny_truthy_bool ⟨H,I,q⟩
 | int i =>
  obtain ⟨t,rfl⟩:=rx
  have e':k=(i != 0):=e
  subst e'
  exact PySem.P.truthy_int ⟨H,I,q⟩
 | str y =>
  obtain ⟨t,rfl⟩:=rx
  obtain ⟨hy,e'⟩:y.length<=sizeLine/\k=((y.length:Int) != 0):=e
  subst e'
  exact PySem.P.truthy_str (by omega) ⟨H,I.tok _,q⟩
 | byt y =>
  obtain ⟨t,rfl⟩:=rx
  obtain ⟨hy,e'⟩:y.size<=sizeLine/\k=((y.size:Int) != 0):=e
  subst e'
  exact PySem.W.truthy_bytes (by omega) ⟨H,I.tok _,q⟩
 | ref p =>
  cases rx
  have e':(∃ xs,eO X.K H p xs/\k=!xs.isEmpty)\/(∃ xs,fW X.K H p xs/\k=!xs.isEmpty)\/∃ kvs,H p=some (.dK kvs)/\k=!kvs.isEmpty:=e
  rcases e' with ⟨xs,hx,e'⟩ | ⟨xs,hx,e'⟩ | ⟨kvs,hx,e'⟩
  ·subst e'
   obtain ⟨its,r,pl,hz⟩:=I.list hx
   have hlen:=r.length
   exact wpAny_truthy_list pl.isList (by simp only [List.size_toArray];omega) ⟨H,I.tok _,by rw [xM r];exact q⟩
  ·subst e'
   obtain ⟨its,r,pl,hz⟩:=I.tuple hx
   have hlen:=r.length
   exact truthy_tuple pl (by simp only [List.size_toArray];omega) ⟨H,I.tok _,by rw [xM r];exact q⟩
  ·subst e'
   obtain ⟨hz,hS,vs,r,m⟩:kvs.length<=sizeLine/\(p == sysModules)=false/\∃ vs,KV kvs vs/\s.heap.DictOf (dJ X.prog X.w) p vs:=I.hok p _ hx
   have hlen:kvs.length=vs.length:=Paired.length r
   exact wpAny_truthy_dict hS m (by omega) ⟨H,I.tok _,by rw [EX r];exact q⟩
 | _=>exact (show False from e).elim
theorem J1 (ha:PE X a ta) (he:∀ whole,isTrue a X.env whole=(do let v <- whole;standAt a.pos;holding [v] (truthy v))) :
  PT X a (fun σ H Q=>ta σ H fun x H'=>∃ k,Kc X.K x H' k/\Q k H'):=by
 intro pins s σ H Q I h
 exact isTrue_plain (bG (ha pins s σ H _ I h) fun v s1 ⟨x,H1,I1,r1,q1⟩=>Oc pins s1 σ H1 x v Q I1 r1 q1) (he _)
theorem E5:dG X (binaryOp .Add) (fun x y H Q=>∃ i j,x=.str i/\y=.str j/\i.length + j.length<=sizeLine/\Q (.str (i++j)) H):=by
 intro pins s σ H x y v u Q I rx ry h
 obtain ⟨i,j,rfl,rfl,hz,q⟩:=h
 obtain ⟨t,rfl⟩:=rx
 obtain ⟨t',rfl⟩:=ry
 exact add_str (fun t' tk=>⟨.str (i++j),H,I.tok _,⟨_,rfl⟩,q⟩) hz
theorem vals1 {x:V} {us:List Value} (r:Vals [x] us):∃ u,us=[u]/\RelV x u:=by
 cases r with
 | cons r1 r2=>cases r2;exact ⟨_,rfl,r1⟩
theorem vals2 {x y:V} {us:List Value} (r:Vals [x,y] us):∃ u w',us=[u,w']/\RelV x u/\RelV y w':=by
 cases r with
 | cons r1 r2 =>
  cases r2 with
  | cons r3 r4=>cases r4;exact ⟨_,_,rfl,r1,r3⟩
theorem Jz:iB X (.builtin "abs") (fun xs H Q=>∃ i,xs=[.int i]/\Q (.int (if i < 0 then -i else i)) H):=by
 intro pins s σ H xs us Q I r h
 obtain ⟨i,rfl,q⟩:=h
 obtain ⟨u,rfl,t,rfl⟩:=vals1 r
 exact call_abs_int fun u tk=>⟨.int (if i < 0 then -i else i),H,I.tok _,⟨_,rfl⟩,q⟩
theorem ID (hc:X.calm=true):iB X (.builtin "max") (fun xs H Q=>∃ i j,xs=[.int i,.int j]/\Q (.int (if j > i then j else i)) H):=by
 intro pins s σ H xs us Q I r h
 obtain ⟨i,j,rfl,q⟩:=h
 obtain ⟨u,w',rfl,⟨t,rfl⟩,⟨t',rfl⟩⟩:=vals2 r
 refine max_two_ints (I.ok.hd hc) fun h' tk k=>⟨_,H,I.kept k,?_,q⟩
 by_cases hj:j > i
 ·rw [if_pos hj,if_pos hj];exact ⟨_,rfl⟩
 ·rw [if_neg hj,if_neg hj];exact ⟨_,rfl⟩
theorem Hg:iB X (.type "int") (fun xs H Q=>(∃ i,xs=[.int i]/\Q (.int i) H)\/∃ k,xs=[.bl k]/\Q (.int (if k then 1 else 0)) H):=by
 intro pins s σ H xs us Q I r h
 rcases h with ⟨i,rfl,q⟩ | ⟨k,rfl,q⟩
 ·obtain ⟨u,rfl,t,rfl⟩:=vals1 r
  exact call_int_int ⟨.int i,H,I,⟨_,rfl⟩,q⟩
 ·obtain ⟨u,rfl,r1⟩:=vals1 r
  cases r1
  exact call_int_bool ⟨.int (if k then 1 else 0),H,I.tok _,⟨_,rfl⟩,q⟩
def OD (K:PySem.W.Frag) (x:V) (H:Hp) (n:Nat):Prop :=
 match x with
 | .str y=>y.length<=sizeLine/\n=y.length
 | .byt y=>y.size<=sizeLine/\n=y.size
 | .ref p=>(∃ xs,eO K H p xs/\n=xs.length)\/∃ xs,fW K H p xs/\n=xs.length
 | _=>False
theorem Jy:iB X (.builtin "len") (fun xs H Q=>∃ x n,xs=[x]/\OD X.K x H n/\Q (.int n) H):=by
 intro pins s σ H xs us Q I r h
 obtain ⟨x,n,rfl,e,q⟩:=h
 obtain ⟨u,rfl,rx⟩:=vals1 r
 have hl:=uT
 have hs:sizeLine=16777216:=sizeLine_eq
 cases x with
 | str y =>
  obtain ⟨t,rfl⟩:=rx
  obtain ⟨hy,e'⟩:y.length<=sizeLine/\n=y.length:=e
  subst e'
  exact len_str (by omega) ⟨.int _,H,I.tok _,⟨_,rfl⟩,q⟩
 | byt y =>
  obtain ⟨t,rfl⟩:=rx
  obtain ⟨hy,e'⟩:y.size<=sizeLine/\n=y.size:=e
  subst e'
  exact PySem.W.len_bytes (by omega) ⟨.int _,H,I.tok _,⟨_,rfl⟩,q⟩
 | ref p =>
  cases rx
  have e':(∃ xs,eO X.K H p xs/\n=xs.length)\/∃ xs,fW X.K H p xs/\n=xs.length:=e
  rcases e' with ⟨xs,hx,e'⟩ | ⟨xs,hx,e'⟩
  ·subst e'
   obtain ⟨its,r',pl,hz⟩:=I.list hx
   have hlen:=r'.length
   exact Calls.call_len_list pl.isList (by simp only [List.size_toArray];omega) ⟨.int xs.length,H,I.tok _,⟨_,by simp only [List.size_toArray];rw [hlen]⟩,q⟩
  ·subst e'
   obtain ⟨its,r',pl,hz⟩:=I.tuple hx
   have hlen:=r'.length
   exact len_tuple pl (by simp only [List.size_toArray];omega) ⟨.int xs.length,H,I.tok _,⟨_,by simp only [List.size_toArray];rw [hlen]⟩,q⟩
 | _=>exact (show False from e).elim
end
structure JT (h:Heap) (x dx C:Addr) (mA:Str->Option Value):Prop where
 obj:h.get? x=some (PySem.W.instObj C dx)
 ns:h.Ns1 dx mA
 ne:dx≠x
theorem Gr {h:Heap} {dx:Addr} {mA:Str->Option Value} (n:h.Ns1 dx mA):∃ od,h.get? dx=some od/\∀ name,PySem.W.lookIn name od=some (mA name):=by
 obtain ⟨o,es,ep,ho,hd,hk,_,hm⟩:=n
 refine ⟨o,ho,fun name=>?_⟩
 have e:=hm name
 unfold nsFind findBy at e
 rw [<- Array.find?_toList] at e
 unfold PySem.W.lookIn
 rw [hd]
 dsimp only
 split
 ·rename_i y q
  rw [q] at e
  exact congrArg some e
 ·rename_i q
  rw [q] at e
  have a:es.toList.any (·.refKey)=false:=by
   rw [List.any_eq_false]
   intro y hy
   obtain ⟨z,t,hkey⟩:=hk y (Array.mem_toList_iff.mp hy)
   simp [DictEntry.refKey,hkey]
  have a':¬ es.toList.any (·.refKey)=true:=by rw [a];exact Bool.false_ne_true
  rw [if_neg a']
  exact congrArg some e
theorem JT.look {h:Heap} {x dx C:Addr} {mA:Str->Option Value} (I:JT h x dx C mA):∃ od,PySem.W.InstAt h x (PySem.W.instObj C dx) C (some od)/\∀ name,PySem.W.lookIn name od=some (mA name) :=
 let ⟨od,ho,hl⟩:=Gr I.ns
 ⟨od,⟨I.obj,rfl,rfl,ho⟩,hl⟩
section
variable {prog:Program} {w:World} {A:Around} {E:Value->Shared->Prop} {s:Shared} {K:PySem.W.Frag} {x dx C f:Addr} {mA:Str->Option Value} {name:Str} {v:Value}
end
def F0 (f:Str) (v:V):List (Str × V)->List (Str × V)
 | []=>[(f,v)]
 | (g,x) :: r=>if g=f then (g,v) :: r else (g,x) :: F0 f v r
theorem CF (f g:Str) (v:V):∀ fs:List (Str × V),(F0 f v fs).lookup g=if g=f then some v else fs.lookup g
 | []=>by
  show List.lookup g [(f,v)]=_
  by_cases h:g=f
  ·have hb:(g == f)=true:=beq_iff_eq.mpr h
   simp only [List.lookup,hb,if_pos h]
  ·have hb:(g == f)=false:=beq_eq_false_iff_ne.mpr h
   simp only [List.lookup,hb,if_neg h]
 | (k,x) :: r=>by
  have ih:=CF f g v r
  rw [show F0 f v ((k,x) :: r)=(if k=f then (k,v) :: r else (k,x) :: F0 f v r) from rfl]
  by_cases hk:k=f
  ·rw [if_pos hk]
   by_cases h:g=k
   ·have hb:(g == k)=true:=beq_iff_eq.mpr h
    simp only [List.lookup,hb,if_pos (h.trans hk)]
   ·have hb:(g == k)=false:=beq_eq_false_iff_ne.mpr h
    simp only [List.lookup,hb,if_neg (fun e:g=f=>h (e.trans hk.symm))]
  ·rw [if_neg hk]
   by_cases h:g=k
   ·have hb:(g == k)=true:=beq_iff_eq.mpr h
    simp only [List.lookup,hb,if_neg (fun e:g=f=>hk (h.symm.trans e))]
   ·have hb:(g == k)=false:=beq_eq_false_iff_ne.mpr h
    simp only [List.lookup,hb]
    exact ih
theorem oG.some_of {v:V} {o:Option Value} (r:oG (some v) o):∃ u,o=some u/\RelV v u:=by
 cases o with
 | none=>exact (show False from r).elim
 | some u=>exact ⟨u,rfl,r⟩
section
variable {P:Program} {w:World} {H H':Hp} {h h':Heap} {a C dx:Addr} {fs fs':List (Str × V)}
theorem Ml (hok:gJ P w H h) (e:H a=some (.ins C dx fs)):∃ mA,JT h a dx C mA/\(∀ f,oG (fs.lookup f) (mA f))/\PySem.Within mA (fs.map (·.1))/\fs.length<=1000/\H dx=some (.own a):=by
 obtain ⟨d,z,ne,ob,mA,n,r,q⟩:=(show bR P w H h a (.ins C dx fs) from hok a _ e)
 exact ⟨mA,⟨ob,n,ne⟩,r,q,z,d⟩
end
structure Pd (K:PySem.W.Frag) (C:Addr):Prop where
 pg:PySem.W.plainGet K C Str.empty=true
 hd:PySem.W.hasDictIn K C=true
 po:PySem.W.plainOver K C=true
 sa:PySem.W.findIn K (.ref C) "__setattr__"=some (some (.builtin "object.__setattr__"))
theorem Pd.get {K:PySem.W.Frag} {C:Addr} (c:Pd K C) (f:Str):PySem.W.plainGet K C f=true:=c.pg
section
variable {X:Cx} {pins:List (Addr × Obj)} {σ:St} {H:Hp} {s:Shared} {a C dx:Addr} {fs:List (Str × V)} {f:Str} {v:V} {A:Around} {E:Value->Shared->Prop}
end
section
variable {X:Cx} {o e value:Expr} {f:Str} {pos pos' tpos:Pos} {ta tv:TE}
end
section
variable {X:Cx} {pins:List (Addr × Obj)} {σ:St} {H:Hp} {s:Shared} {A:Around} {E:Value->Shared->Prop} {Q:Value->Shared->Prop} {c:Value} {b:Bool}
inductive mO (K:PySem.W.Frag) (H:Hp):V->Value->Prop where
 | non:mO K H .non (.type "NoneType")
 | bl (x:Bool):mO K H (.bl x) (.type "bool")
 | int (i:Int):mO K H (.int i) (.type "int")
 | str (x:Str):mO K H (.str x) (.type "str")
 | flt (x:UInt64):mO K H (.flt x) (.type "float")
 | lst {a:Addr} {xs:List V} (e:H a=some (.lst xs)):mO K H (.ref a) (.type "list")
 | frz {a:Addr} {o:Obj} {xs:List V} (e:H a=some (.frz o (.lst xs))):mO K H (.ref a) (.type "list")
 | tup {a:Addr} {xs:List V} (e:H a=some (.tup xs)):mO K H (.ref a) (.type "tuple")
 | dK {a:Addr} {kvs:List (Key × V)} (e:H a=some (.dK kvs)):mO K H (.ref a) (.type "dict")
 | dT {a:Addr} {kvs:List (List Key × V)} (e:H a=some (.dT kvs)):mO K H (.ref a) (.type "dict")
 | ins {a C dx:Addr} {fs:List (Str × V)} (e:H a=some (.ins C dx fs)) (cl:Pd K C) (ha:PySem.W.findIn K (.ref C) "__class__"=some (some (.builtin "object.__class__")))
   (hn:PySem.W.specialIn K (.builtin "object.__class__") "__get__"=some (some (.builtin "getset_descriptor.__get__"))) (htk:PySem.W.takesIn K (.builtin "object.__class__")=some true)
   (hm:PySem.W.mroIn K C (.type "object")=some true):mO K H (.ref a) (.ref C)
theorem GG {x:V} {u t:Value} (I:Inv X pins σ H s) (rx:RelV x u) (ty:mO X.K H x t) (e:PySem.W.kitOne X.K t c=some b) (h:∀ tk,Q (.bool b) { s with toks:=tk }) :
  wpAny (model X.prog X.w) A (call (.builtin "isinstance") [u,c]) Q E s:=by
 cases ty with
 | non=>cases (show u=Value.none from rx);exact PySem.W.kia_one PySem.W.kitx_none I.kIn True.intro e (fun z=>nomatch z) h
 | bl y=>cases (show u=Value.bool y from rx);exact PySem.W.kia_one PySem.W.kitx_bool I.kIn True.intro e (fun z=>nomatch z) h
 | int i=>obtain ⟨t,q⟩:=(show ∃ t,u=Value.int i t from rx);cases q;exact PySem.W.kia_one PySem.W.kitx_int I.kIn True.intro e (fun z=>nomatch z) h
 | str y=>obtain ⟨t,q⟩:=(show ∃ t,u=Value.str y t from rx);cases q;exact PySem.W.kia_one PySem.W.kitx_str I.kIn True.intro e (fun z=>nomatch z) h
 | flt y=>obtain ⟨t,q⟩:=(show ∃ t,u=Value.float y t from rx);cases q;exact PySem.W.kia_one PySem.W.kitx_float I.kIn True.intro e (fun z=>nomatch z) h
 | @lst a xs ea =>
  cases (show u=Value.ref a from rx)
  obtain ⟨_,_,n,_,h1⟩:=(show bR X.prog X.w H s.heap a (.lst xs) from I.hok a _ ea)
  exact PySem.W.kia_one PySem.W.kitx_list I.kIn ⟨_,h1,rfl⟩ e (fun z=>nomatch z) h
 | @frz a ob xs ea =>
  cases (show u=Value.ref a from rx)
  obtain ⟨_,_,_,n,_,h1⟩:=(show bR X.prog X.w H s.heap a (.frz ob (.lst xs)) from I.hok a _ ea)
  exact PySem.W.kia_one PySem.W.kitx_list I.kIn ⟨_,h1,rfl⟩ e (fun z=>nomatch z) h
 | @tup a xs ea =>
  cases (show u=Value.ref a from rx)
  obtain ⟨_,_,_,p⟩:=(show bR X.prog X.w H s.heap a (.tup xs) from I.hok a _ ea)
  obtain ⟨o,h1,h2,_⟩:=p
  exact PySem.W.kia_one PySem.W.kitx_tuple I.kIn ⟨o,h1,h2⟩ e (fun z=>nomatch z) h
 | @dK a kvs ea =>
  cases (show u=Value.ref a from rx)
  obtain ⟨_,_,vs,_,p⟩:=(show bR X.prog X.w H s.heap a (.dK kvs) from I.hok a _ ea)
  obtain ⟨o,es,ep,h1,h2,_⟩:=p
  exact PySem.W.kia_one PySem.W.kitx_dict I.kIn ⟨o,h1,h2.1⟩ e (fun z=>nomatch z) h
 | @dT a kvs ea =>
  cases (show u=Value.ref a from rx)
  obtain ⟨_,_,xs,_,o,es,ep,h1,h2,_⟩:=(show bR X.prog X.w H s.heap a (.dT kvs) from I.hok a _ ea)
  exact PySem.W.kia_one PySem.W.kitx_dict I.kIn ⟨o,h1,h2.1⟩ e (fun z=>nomatch z) h
 | @ins a C dx fs ea cl ha hn htk hm =>
  cases (show u=Value.ref a from rx)
  obtain ⟨mA,O,_⟩:=Ml I.hok ea
  obtain ⟨od,J,_⟩:=O.look
  exact PySem.W.kia_one (PySem.W.kitx_own (cl.get _) cl.hd ha hn htk hm) I.kIn J e (fun z=>nomatch z) h
end
structure fT (k:Nat) (A:Around):Prop where
 hd:A.handled=none
 dp:A.depth + 3 * k + 5 < recursionLimit
 un:A.units + 16 * k + 200 < cLine
theorem fT.mono {j k:Nat} {A:Around} (r:fT k A) (h:j<=k):fT j A:=⟨r.hd,by have:=r.dp;omega,by have:=r.un;omega⟩
theorem fT.deeper {k:Nat} {A:Around} (r:fT (k + 1) A) (env:Env):fT k (A.deeper env) :=
 ⟨r.hd,by have:=r.dp;show A.depth + 1 + 3 * k + 5 < _;omega,by have:=r.un;show A.units + 3 + 16 * k + 200 < _;omega⟩
theorem P5 {A:Around} {C:Addr} {us:List Value} {kw:List (Str × Value)}:(A.under (.builtin "type.__call__" ⟨.ref C :: us,kw⟩)).depth=A.depth + 1:=by
 first | rfl | simp [Around.under,Code.weight,Code.isCreation,Code.isGuard,Code.isCaller,Code.frames,Code.isFrame,guardIds]
theorem P4 {A:Around} {C:Addr} {us:List Value} {kw:List (Str × Value)}:(A.under (.builtin "type.__call__" ⟨.ref C :: us,kw⟩)).units=A.units + 1:=by
 first | rfl | simp [Around.under,Code.cUnits,Code.frames,Code.isFrame]
theorem fT.depth {k:Nat} {A:Around} (r:fT k A):A.depth < recursionLimit:=by have:=r.dp;omega
theorem fT.units {k:Nat} {A:Around} (r:fT k A):A.units + 64 < cLine:=by have:=r.un;omega
theorem fT.units0 {k:Nat} {A:Around} (r:fT k A):A.units < cLine:=by have:=r.un;omega
def NG:TA:=fun _ H Q=>Q [] H
def K8 (ta:TE) (tr:TA):TA:=fun σ H Q=>ta σ H fun x H1=>tr σ H1 fun xs H2=>Q (x :: xs) H2
section
variable {X:Cx} {e:Expr} {es:List Expr} {te:TE} {t:TA} {pos:Pos}
theorem PQ:PA X [] NG:=fun _ _ _ _ H Q I h=>Calls.spliced_nil ⟨[],H,I,.nil,h⟩
theorem Nz (ha:PE X e te) (hr:PA X es t) (hs:starEach (e :: es) X.env=(false,eval e X.env) :: starEach es X.env:=by rfl):PA X (e :: es) (K8 te t):=by
 intro pos pins s σ H Q I h
 rw [hs]
 show wpAny _ _ (spliced ((false,eval e X.env) :: backTo pos (starEach es X.env))) _ _ s
 refine Calls.spliced_cons (bG (ha pins s σ H _ I h) fun u s1 ⟨x,H1,I1,r1,q1⟩=>?_)
 exact bG (hr pos pins s1 σ H1 _ I1 q1) fun us s2 ⟨xs,H2,I2,r2,q2⟩=>⟨x :: xs,H2,I2,.cons r1 r2,q2⟩
def NM (t:TA):TE:=fun σ H Q=>t σ H fun xs H1=>xs.length<=sizeLine/\∀ p,H1 p=none->Q (.ref p) (upd H1 p (.tup xs))
def O0 (t:TA):TE:=fun σ H Q=>t σ H fun xs H1=>xs.length<=sizeLine/\∀ p,H1 p=none->Q (.ref p) (upd H1 p (.lst xs))
theorem Om {x1} (h:PA X es t):PE X (.Tuple es x1 pos) (NM t):=by
 intro pins s σ H Q I hq
 refine wpAny_Tuple_spliced (bG (h pos pins s σ H _ I hq) fun us s1 ⟨xs,H1,I1,r,z,q⟩=>⟨by rw [<- r.length];exact z,?_⟩)
 have hf:H1 s1.heap.objs.size=none:=I1.hok.fresh (Nat.le_refl _)
 refine ⟨.ref s1.heap.objs.size,upd H1 s1.heap.objs.size (.tup xs),I1.laid (t':=s1.toks) (fun b u e=>Heap.get?_push_of_some _ e) (Nat.le_refl _) ?_,rfl,q _ hf⟩
 exact ⟨z,us,r,⟨_,Heap.get?_push_size _ rfl,rfl,rfl,_,rfl⟩⟩
theorem Ob (h:PA X es t):PE X (.List es pos) (O0 t):=by
 intro pins s σ H Q I hq
 refine wpAny_List_spliced (bG (h pos pins s σ H _ I hq) fun us s1 ⟨xs,H1,I1,r,z,q⟩=>⟨by rw [<- r.length];exact z,?_⟩)
 have hf:H1 s1.heap.objs.size=none:=I1.hok.fresh (Nat.le_refl _)
 refine ⟨.ref s1.heap.objs.size,upd H1 s1.heap.objs.size (.lst xs),I1.laid (t':=s1.toks) (fun b u e=>Heap.get?_push_of_some _ e) (Nat.le_refl _) ?_,rfl,q _ hf⟩
 exact ⟨z,us,0,r,Heap.get?_push_size _ rfl⟩
end
abbrev Sp:=List V->Hp->VK->XK->Prop
abbrev vV:=List Env->Hp->Shared->XK->Value->Shared->Prop
structure Bz (P:Program) (w:World) (K:PySem.W.Frag) (mg:Str->Option Value) (base:Heap) (A:Around) (outer:List Env) (s:Shared) (H:Hp):Prop where
 frames:A.frames=some outer
 mod:Mod K mg base
 bs:∀ b o,base.get? b=some o->s.heap.get? b=some o/\H b=none
 bsz:base.objs.size<=s.heap.objs.size
 funs:s.heap.FunFrames base outer
 frf:∀ b∈i9 outer,H b=none
 hok:gJ P w H s.heap
 bare:AllBare s.gens
def CE (outer:List Env) (P:Program) (w:World) (H:Hp) (s:Shared) (Q:VK) (u:Value) (s':Shared):Prop :=
 ∃ v H',s'.os=s.os/\AllBare s'.gens/\Un (i9 outer) [] H H' s.heap s'.heap/\gJ P w H' s'.heap/\RelV v u/\Q v H'
def CR (CX:vV) (outer:List Env) (P:Program) (w:World) (H:Hp) (s:Shared) (Q:VK) (E:XK) (r:Result) (s':Shared):Prop :=
 match r with
 | .ok (.ret u)=>CE outer P w H s Q u s'
 | .ok _=>False
 | .error e=>CX outer H s E e s'
structure iZ (P:Program) (w:World) (K:PySem.W.Frag) (mg:Str->Option Value) (base:Heap) (CX:vV) (k:Nat) (f:Addr) (fd:FuncData) (ps:List Str) (sp:Sp):Prop where
 len:∀ vs H Q E,sp vs H Q E->vs.length=ps.length
 run:∀ (A:Around) (outer:List Env) (s:Shared) (H:Hp) (args:Args) (us:List Value) (vs:List V) (Q:VK) (E:XK),fT k A->Bz P w K mg base A outer s H->BindsTo s fd args (ps.zip us)->Vals vs us->sp vs H Q E ->
  codeAny (model P w) A (.call (.ref f) args) (CR CX outer P w H s Q E) s
section
variable {X:Cx} {pins:List (Addr × Obj)} {σ:St} {H:Hp} {s s':Shared}
theorem Inv.env0 (I:Inv X pins σ H s):Bz X.prog X.w X.K X.mg X.base X.A X.stack s H :=
 ⟨I.ok.frames,I.ok.mod,I.bs,Nat.le_trans I.ok.bsz I.sz,I.stack,I.stkFree,I.hok,I.bare⟩
theorem Inv.after {Q:VK} {u:Value} (I:Inv X pins σ H s) (h:CE X.stack X.prog X.w H s Q u s'):EP X pins σ Q u s':=by
 obtain ⟨v,H',os,bare,un,hok,r,q⟩:=h
 obtain ⟨hh,g,d,t,os'⟩:=s'
 obtain rfl:os'=s.os:=os
 exact ⟨v,H',I.call (h':=hh) (g':=g) (d':=d) (t':=t) (ch:=[]) un hok bare (fun b z=>absurd z (by simp)),r,q⟩
end
def ET (sp:Sp) (dvs:List V) (E:XK) (t:TA):TE:=fun σ H Q=>t σ H fun vs H1=>sp (vs++dvs) H1 Q E
def Binds (K:PySem.W.Frag) (fd:FuncData) (ps:List Str) (ds:List Value):Prop :=
 ∀ (s:Shared) (us:List Value),K.In s.heap->(us++ds).length=ps.length->BindsTo s fd ⟨us,[]⟩ (ps.zip (us++ds))
theorem Binds.all {K:PySem.W.Frag} {fd:FuncData} {ps:List Str} (h:∀ us:List Value,us.length=ps.length->bindArgs fd ⟨us,[]⟩=pure (ps.zip us)):Binds K fd ps []:=fun s us _ hl=>by
 rw [List.append_nil] at hl ⊢
 exact .of_eq (h us hl)
def Passes (CX:vV) (X:Cx) (E:XK):Prop:=∀ (pins:List (Addr × Obj)) (σ:St) (H:Hp) (s:Shared) (e:Value) (s':Shared),Inv X pins σ H s->CX X.stack H s E e s'->X.xe e s'
section
variable {X:Cx} {CX:vV} {k:Nat} {f C:Addr} {fd:FuncData} {ps:List Str} {sp:Sp} {dvs:List V} {ds:List Value} {E:XK} {x m:Str} {p pos apos:Pos} {e o:Expr} {es:List Expr} {ta:TE} {t:TA}
theorem Bs {pins:List (Addr × Obj)} {σ:St} {H:Hp} {s:Shared} {Q:VK} {us:List Value} {vs:List V} (F:iZ X.prog X.w X.K X.mg X.base CX k f fd ps sp) (hr:fT k X.A) (hb:Binds X.K fd ps ds) (hd:Vals dvs ds) (hx:Passes CX X E)
  (I:Inv X pins σ H s) (r:Vals vs us) (h:sp (vs++dvs) H Q E):wpAny (model X.prog X.w) X.A (call (.ref f) us) (EP X pins σ Q) X.xe s:=by
 have r2:Vals (vs++dvs) (us++ds):=r.append hd
 have hl:(us++ds).length=ps.length:=by rw [<- r2.length];exact F.len _ _ _ _ h
 refine wpAny_call (codeAny_mono (F.run X.A X.stack s H ⟨us,[]⟩ (us++ds) (vs++dvs) Q E hr I.env0 (hb s us I.kIn hl) r2 h) fun r s' hq=>?_)
 cases r with
 | error e=>exact hx pins σ H s e s' I hq
 | ok fl =>
  cases fl with
  | ret u=>exact I.after hq
  | next=>exact False.elim hq
  | brk=>exact False.elim hq
  | cont=>exact False.elim hq
theorem MA (F:iZ X.prog X.w X.K X.mg X.base CX k f fd ps sp) (hr:fT k X.A) (hg:Gl X x) (hm:X.mg x=some (.ref f)) (hk:PySem.W.keepIn X.K (.ref f)=true) (hb:Binds X.K fd ps ds) (hd:Vals dvs ds) (hx:Passes CX X E)
  (ha:PA X (e :: es) t) (hdb:(x == ("__debug__":Str))=false:=by decide) (he:starEach (e :: es) X.env=(false,eval e X.env) :: starEach es X.env:=by rfl) (hpl:(backTo pos (starEach es X.env)).any (·.1)=false:=by rfl) :
  PE X (.Call (.Name x p) (e :: es) [] pos) (ET sp dvs E t):=by
 intro pins s σ H Q I h
 refine wpAny_Call_Name_kw (zB I hg hm ?_ hdb)
 refine PySem.W.callWith_K (h₀:=X.base) I.ok.mod.kin hk (bG (ha pos pins s σ H _ I h) fun us s1 ⟨vs,H1,I1,r,q⟩=>⟨I1.kIn,?_⟩) he hpl
 exact Bs F hr hb hd hx I1 r q
end
section
variable {X:Cx} {CX:vV} {k:Nat} {f C:Addr} {fd:FuncData} {ps ks:List Str} {sp:Sp} {E:XK} {x m:Str} {p pos apos kpos:Pos} {e o:Expr} {es:List Expr} {kws:List Keyword} {te ta:TE} {t tk:TA} {nm:Option Str}
variable {g:List Value->List Value->List Value} {gV:List V->List V->List V}
end
structure aX (N P:List Str) (sc:Scope):Prop where
 kind:sc.kind=.function
 co:sc.isCoroutine=false
 gen:sc.isGenerator=false
 nd:N.Nodup
 pre:N.take P.length=P
 par:∀ x∈P,sc.names.lookup x=some .local\/sc.names.lookup x=some .cell
 nofree:∀ y∈sc.names,y.2≠.free
theorem zG {kindOf:Str->Option NameKind} {x:Str}:∀ {binds:List (Str × Value)} {m:Str->Option Value},(∀ v,(x,v) ∉ binds)->bindL kindOf binds m x=m x
 | [],_,_=>rfl
 | (n,v) :: r,m,h=>by
  unfold bindL
  rw [zG fun w hw=>h w (List.mem_cons_of_mem _ hw)]
  split
  ·have:x≠n:=by rintro rfl;exact h v List.mem_cons_self
   simp [this]
  ·rfl
theorem Ab {kindOf:Str->Option NameKind} {x:Str}:∀ {binds:List (Str × Value)} {m:Str->Option Value},(∀ v,(x,v) ∉ binds)->bindC kindOf binds m x=m x
 | [],_,_=>rfl
 | (n,v) :: r,m,h=>by
  unfold bindC
  rw [Ab fun w hw=>h w (List.mem_cons_of_mem _ hw)]
  split
  ·rfl
  ·have:x≠n:=by rintro rfl;exact h v List.mem_cons_self
   simp [this]
theorem zM {kindOf:Str->Option NameKind} {x:Str} {v:Value}:∀ {P:List Str} {vs:List Value} {i:Nat} {m:Str->Option Value},P.Nodup->P[i]?=some x->vs[i]?=some v->kindOf x=some .local ->
  bindL kindOf (P.zip vs) m x=some v
 | [],_,_,_,_,h,_,_=>by simp at h
 | _ :: _,[],_,_,_,_,h,_=>by simp at h
 | p :: P,w :: vs,0,m,nd,h1,h2,hk=>by
  simp at h1 h2;subst h1;subst h2
  show bindL kindOf ((p,w) :: P.zip vs) m p=_
  unfold bindL
  rw [zG fun v hv=>(List.nodup_cons.mp nd).1 (List.of_mem_zip hv).1,if_pos hk]
  simp
 | p :: P,w :: vs,i + 1,m,nd,h1,h2,hk=>by
  show bindL kindOf ((p,w) :: P.zip vs) m x=_
  unfold bindL
  exact zM (i:=i) (List.nodup_cons.mp nd).2 (by simpa using h1) (by simpa using h2) hk
theorem Ag {kindOf:Str->Option NameKind} {x:Str} {v:Value}:∀ {P:List Str} {vs:List Value} {i:Nat} {m:Str->Option Value},P.Nodup->P[i]?=some x->vs[i]?=some v->kindOf x≠some .local ->
  bindC kindOf (P.zip vs) m x=some v
 | [],_,_,_,_,h,_,_=>by simp at h
 | _ :: _,[],_,_,_,_,h,_=>by simp at h
 | p :: P,w :: vs,0,m,nd,h1,h2,hk=>by
  simp at h1 h2;subst h1;subst h2
  show bindC kindOf ((p,w) :: P.zip vs) m p=_
  unfold bindC
  rw [Ab fun v hv=>(List.nodup_cons.mp nd).1 (List.of_mem_zip hv).1,if_neg hk]
  simp
 | p :: P,w :: vs,i + 1,m,nd,h1,h2,hk=>by
  show bindC kindOf ((p,w) :: P.zip vs) m x=_
  unfold bindC
  exact Ag (i:=i) (List.nodup_cons.mp nd).2 (by simpa using h1) (by simpa using h2) hk
def start (N:List Str) (vs:List V):St:=vs.map some++List.replicate (N.length - vs.length) none
def yS (CX:vV) (P:Program) (w:World) (K:PySem.W.Frag) (mg:Str->Option Value) (base:Heap) (N:List Str) (qual:Str) (scope:Scope) (f:Addr) (cd:Value) (A:Around) (outer:List Env) (s:Shared) (H:Hp) (E:XK):Cx where
 prog:=P
 w:=w
 K:=K
 mg:=mg
 base:=base
 A:=A.deeper (envOfC qual scope s.heap.objs.size f cd)
 N:=N
 s₀:=s
 H₀:=H
 env:=envOfC qual scope s.heap.objs.size f cd
 outer:=outer
 stack:=envOfC qual scope s.heap.objs.size f cd :: outer
 ex:=[]
 calm:=true
 fn:=fun _=>true
 pn:=[]
 xe:=fun e s'=>wpAny (model P w) (A.deeper (envOfC qual scope s.heap.objs.size f cd)) (leaving (envOfC qual scope s.heap.objs.size f cd) e) (fun _ s''=>CX outer H s E e s'') (fun e' s''=>CX outer H s E e' s'') s'
theorem BD {sc:Scope} {n:Nat} {x:Str} (h:sc.names.lookup x=some .cell):∃ c,(cellsFrom n sc.names []).lookup x=some c:=by
 have q:=PySem.W.cellsFrom_some sc.names n [] (.inl h)
 exact Option.isSome_iff_exists.mp q
theorem Hs {CX:vV} {P:Program} {w:World} {K:PySem.W.Frag} {mg:Str->Option Value} {base:Heap} {N ps:List Str} {qual:Str} {scope:Scope} {f:Addr} {cd:Value} {A:Around} {outer:List Env} {s s1:Shared} {H:Hp} {E:XK} {us:List Value} {vs:List V}
  (S:aX N ps scope) (hd:A.handled=none) (e0:Bz P w K mg base A outer s H) (hl:vs.length=ps.length) (r:Vals vs us)
  (x:InCallC s s.heap.objs.size (bindL (envOfC qual scope s.heap.objs.size f cd).kindOf (ps.zip us) fun _=>none) (cellsFrom (s.heap.objs.size + 1) scope.names []) (bindC (envOfC qual scope s.heap.objs.size f cd).kindOf (ps.zip us) fun _=>none) s1) :
  Inv (yS CX P w K mg base N qual scope f cd A outer s H E) [] (start N vs) H s1:=by
 have hpl:ps.length<=N.length:=by have:=congrArg List.length S.pre;rw [List.length_take] at this;omega
 obtain ⟨h1,tk,rfl,hk⟩:=x.done
 have noA:∀ b:Addr,b ∉ (yS CX P w K mg base N qual scope f cd A outer s H E).ex:=fun b z=>absurd (show b∈([]:List Addr) from z) (by simp)
 refine ⟨⟨e0.mod,S.kind,rfl,rfl,Nat.le_refl _,fun y z c h1 h2=>?_,fun y hy=>?_,fun y c _ h=>?_,fun _=>hd,Around.frames_deeper e0.frames,.inr ⟨rfl,rfl⟩,fun b z=>absurd z (noA b),e0.bs,e0.bsz,fun b _ _=>noA b,fun b z=>absurd z (noA b),e0.funs,e0.frf⟩,
  rfl,e0.bare,Un.kept hk,⟨_,x.toInCall.ns,fun i y v h1 h2 h3=>?_⟩,fun y c h=>⟨_,x.cell y c h⟩,e0.hok.fresh (Nat.le_refl _),fun y c h=>?_,fun p hp=>absurd (show p∈([]:List (Addr × Obj)) from hp) (by simp),e0.hok.kept hk,?_⟩
 ·exact name_of_addr x.apart (PySem.mem_of_lookup h1) (PySem.mem_of_lookup h2)
 ·have hy:scope.names.lookup y=some .cell\/scope.names.lookup y=some .free:=hy
  rcases hy with hy | hy
  ·exact BD hy
  ·exact absurd rfl (S.nofree _ (PySem.mem_of_lookup hy))
 ·exact Nat.le_of_lt (x.above y c (PySem.mem_of_lookup h))
 ·have hi:i < vs.length:=by
   unfold start at h2
   by_cases hi:i < vs.length
   ·exact hi
   ·rw [List.getElem?_append_right (by simpa using hi)] at h2
    rw [List.getElem?_replicate] at h2
    split at h2 <;> cases h2
  have ha:vs[i]?=some v:=by
   unfold start at h2
   rw [List.getElem?_append_left (by simpa using hi),List.getElem?_map] at h2
   cases e:vs[i]? with
   | none=>rw [e] at h2;cases h2
   | some a=>rw [e] at h2;cases h2;rfl
  obtain ⟨u,hu,rv⟩:=r.get ha
  have hp:ps[i]?=some y:=by
   rw [<- S.pre,List.getElem?_take_of_lt (by omega)];exact h1
  have ndP:ps.Nodup:=by rw [<- S.pre];exact S.nd.sublist (List.take_sublist _ _)
  refine ⟨u,rv,?_⟩
  rcases S.par y (List.mem_of_getElem? hp) with k | k
  ·exact .inl ⟨k,zM ndP hp hu k⟩
  ·obtain ⟨c,e⟩:=BD (n:=s.heap.objs.size + 1) k
   refine .inr ⟨.inl k,c,e,?_⟩
   have q:=x.cell y c e
   rw [Ag ndP hp hu (by show scope.names.lookup y≠_;rw [k];decide)] at q
   exact q
 ·exact e0.hok.fresh (Nat.le_of_lt (x.above y c (PySem.mem_of_lookup h)))
 ·unfold start
  show _=N.length
  rw [List.length_append,List.length_map,List.length_replicate]
  omega
theorem Lh {CX:vV} {P:Program} {w:World} {K:PySem.W.Frag} {mg:Str->Option Value} {base:Heap} {k:Nat} {f:Addr} {name qual:Str} {params:Arguments} {body:List Stmt} {scope:Scope} {dV kV doc pm cdv ct oc:Value} {an od:Option Addr}
  {osl:Array (Option Value)} {N ps:List Str} {sp:Sp} (lk:K.lookup f=some ⟨oc,od,.func (PySem.W.fnOf name qual params body scope dV kV doc pm an cdv ct),osl⟩) (hcd:PySem.W.codeIn K cdv qual=true) (S:aX N ps scope)
  (len:∀ vs H Q E,sp vs H Q E->vs.length=ps.length)
  (hbody:∀ (A:Around) (outer:List Env) (s:Shared) (H:Hp) (vs:List V) (Q:VK) (E:XK),fT k (A.deeper (envOfC qual scope s.heap.objs.size f cdv))->sp vs H Q E ->
   ∃ t,pF (yS CX P w K mg base N qual scope f cdv A outer s H E) body t/\t { nx:=fun _ H'=>Q .non H',rt:=Q } (start N vs) H) :
  iZ P w K mg base CX (k + 1) f (PySem.W.fnOf name qual params body scope dV kV doc pm an cdv ct) ps sp:=by
 refine ⟨len,fun A outer s H args us vs Q E hr e0 hb r hsp=>?_⟩
 have hl:=len _ _ _ _ hsp
 have KX:K.In s.heap:=e0.mod.kin.keeps fun b o e=>(e0.bs b o e).1
 have lim:s.heap.NoLimit:=e0.mod.nolimit.keeps fun b o e=>(e0.bs b o e).1
 have hkind:∀ y∈ps.zip us,scope.names.lookup y.1=some .local\/(scope.names.lookup y.1=some .cell/\((cellsFrom (s.heap.objs.size + 1) scope.names []).lookup y.1).isSome=true):=fun ⟨n,v⟩ hy=>by
  rcases S.par n (List.of_mem_zip hy).1 with q | q
  ·exact .inl q
  ·exact .inr ⟨q,PySem.W.cellsFrom_some _ _ _ (.inl q)⟩
 refine codeAny_call_function hr.depth (KX _ _ lk) rfl S.co S.gen rfl (PySem.W.codeRec_of KX hcd) (hb _ _ _ _ ?_)
 refine wpAny_newFunctionEnv_cells S.kind hkind fun env he s1 x=>?_
 subst he
 refine ⟨lim.keeps x.toInCall.keep,codeAny_func ?_⟩
 obtain ⟨t,ht,hq⟩:=hbody A outer s H vs Q E (hr.deeper _) hsp
 have I:Inv (yS CX P w K mg base N qual scope f cdv A outer s H E) [] (start N vs) H s1:=Hs S hr.hd e0 hl r x
 refine wpAny_mono (ht [] s1 (start N vs) H _ I hq) (fun fl s' hs=>?_) fun e s' hs=>hs
 have fin:∀ {σ':St} {H':Hp} {v:V} {u:Value},Inv (yS CX P w K mg base N qual scope f cdv A outer s H E) [] σ' H' s'->RelV v u->Q v H'->CE outer P w H s Q u s' :=
  fun {σ' H' v u} J rv q=>⟨v,H',J.os,J.bare,J.base,J.hok,rv,q⟩
 cases fl with
 | ret u =>
  obtain ⟨v,σ',H',J,rv,q⟩:=hs
  exact fin J rv q
 | next =>
  obtain ⟨σ',H',J,q⟩:=hs
  exact fin (v:=V.non) (u:=Value.none) J rfl q
 | brk =>
  obtain ⟨_,_,_,q⟩:=hs
  exact False.elim q
 | cont =>
  obtain ⟨_,_,_,q⟩:=hs
  exact False.elim q
section
variable {X:Cx} {x:Str} {p pos:Pos} {e:Expr} {es:List Expr} {t:TA} {id T:String} {r:List V->Hp->VK->Prop}
def O2 (r:List V->Hp->VK->Prop) (t:TA):TE:=fun σ H Q=>t σ H fun vs H1=>r vs H1 Q
theorem IS (hc:iB X (.builtin id) r) (hg:Gl X x) (hm:X.mg x=none) (hv:bootBuiltins x=some (.builtin id)) (ha:PA X (e :: es) t) (hn:x≠"__name__":=by decide) (hdb:(x == ("__debug__":Str))=false:=by decide)
  (he:starEach (e :: es) X.env=(false,eval e X.env) :: starEach es X.env:=by rfl) (hpl:(backTo pos (starEach es X.env)).any (·.1)=false:=by rfl):PE X (.Call (.Name x p) (e :: es) [] pos) (O2 r t):=by
 intro pins s σ H Q I h
 refine wpAny_Call_Name_kw (jO I hg hm hv ?_ hn hdb)
 exact PyProof.Rows.callWith_builtin1 (bG (ha pos pins s σ H _ I h) fun us s1 ⟨vs,H1,I1,r1,q1⟩=>hc pins s1 σ H1 vs us Q I1 r1 q1) he hpl
theorem Gz (hc:iB X (.type T) r) (hg:Gl X x) (hm:X.mg x=none) (hv:bootBuiltins x=some (.type T)) (ha:PA X (e :: es) t) (hn:x≠"__name__":=by decide) (hdb:(x == ("__debug__":Str))=false:=by decide)
  (he:starEach (e :: es) X.env=(false,eval e X.env) :: starEach es X.env:=by rfl) (hpl:(backTo pos (starEach es X.env)).any (·.1)=false:=by rfl):PE X (.Call (.Name x p) (e :: es) [] pos) (O2 r t):=by
 intro pins s σ H Q I h
 refine wpAny_Call_Name_kw (jO I hg hm hv ?_ hn hdb)
 exact PyProof.Rows.callWith_type1 (bG (ha pos pins s σ H _ I h) fun us s1 ⟨vs,H1,I1,r1,q1⟩=>hc pins s1 σ H1 vs us Q I1 r1 q1) he hpl
end
end L2
namespace HT
open PySem PyProof.Rows
def lexLt:List Int->List Int->Bool
 | [],[]=>false
 | [],_ :: _=>true
 | _ :: _,[]=>false
 | x :: xs,y :: ys=>if x=y then lexLt xs ys else decide (x < y)
theorem FQ (x y:Int) (xs ys:List Int):lexLt (x :: xs) (y :: ys)=if x=y then lexLt xs ys else decide (x < y):=rfl
theorem Ap:lexLt [] []=false:=rfl
theorem yQ (y:Int) (ys:List Int):lexLt [] (y :: ys)=true:=rfl
theorem yV (x:Int) (xs:List Int):lexLt (x :: xs) []=false:=rfl
theorem KH (A:Around) (s:Shared) (a:Int) (t:Tok) (c:Int) (u:Tok):∃ e,SeqAt.EqAt A s (.int a t) (.int c u) e/\(e=true ↔ a=c) :=
 ⟨(a == c),SeqAt.EqAt.int_int a t c u,by simp⟩
theorem Kb (A:Around) (s:Shared) (a:Int) (t:Tok) (c:Int) (u:Tok) (prog:Program) (w:World) (E:Value->Shared->Prop) (Q:Value->Shared->Prop) (h:Q (.bool (decide (a < c))) s) :
  wpAny (model prog w) A (richCompare .Lt (.int a t) (.int c u)) Q E s :=
 (PyProof.Rows.lt_int h:wpAny (model prog w) A (compareOp .Lt (.int a t) (.int c u)) Q E s)
section
open PySem.SeqAt
open PySem.AutoSeq1 (wpAny_loadPart')
open PySem.MeetsSeq PySem.MeetsSeq2 PySem.MeetsSeq3
theorem An (l b:Addr) (items items2:Array Value) (n n2:Nat) (dd dd2:Option Addr) (sl sl2:Array (Option Value)) (ns ms:List Int) (hi:IntsAre items.toList ns) (hj:IntsAre items2.toList ms) :
  Meets (Builtin.«tuple.__lt__» ⟨[.ref l,.ref b],[]⟩)
   (fun _ R s=>s.heap.get? l=some { cls:=.type "tuple",dict:=dd,data:=.seq items n,slots:=sl }/\s.heap.get? b=some { cls:=.type "tuple",dict:=dd2,data:=.seq items2 n2,slots:=sl2 } /\
    R (.ok (.ret (.bool (lexLt ns ms)))) s) :=
 .of_wp fun prog w A R s h=>by
  obtain ⟨hp,g,d,tk,os⟩:=s;obtain ⟨hl,hb,h⟩:=h
  have f2:=AutoSeq1.sub_tuple_tuple
  have z1:items.size=ns.length:=by rw [<- hi.length];simp
  have z2:items2.size=ms.length:=by rw [<- hj.length];simp
  wp_walk using wpAny_loadPart' hl,wpAny_loadPart' hb,wpAny_forIn_list _ (fun rest b s'=>b.1=none/\s'=⟨hp,g,d,tk,os⟩/\∃ (vs ws:List Value) (ns' ms':List Int),rest=vs.zip ws /\
   IntsAre vs ns'/\IntsAre ws ms'/\ns'.length + items2.size=ms'.length + items.size/\R (.ok (.ret (.bool (lexLt ns' ms')))) ⟨hp,g,d,tk,os⟩) _
  case turn =>
   rintro ⟨y,x⟩ rest b s' ⟨hb',rfl,vs,ws,ns',ms',hz,hvi,hwi,hlen,hR⟩
   cases hvi with
   | nil=>rw [List.zip_nil_left] at hz;cases hz
   | cons a t hvi' =>
    cases hwi with
    | nil=>rw [List.zip_nil_right] at hz;cases hz
    | cons c u hwi' =>
     rw [List.zip_cons_cons] at hz
     injection hz with hyx hrest
     injection hyx with hy hx
     subst hy hx
     rw [FQ] at hR
     simp only [List.length_cons] at hlen
     obtain ⟨e,he,hiff⟩:=KH A.in1 ⟨hp,g,d,tk,os⟩ a t c u
     refine wpAny_bind (he prog w _ _ ?_)
     cases e with
     | true =>
      rw [if_pos (hiff.mp rfl)] at hR
      wp_walk
      exact ⟨rfl,rfl,_,_,_,_,hrest,hvi',hwi',by omega,hR⟩
     | false =>
      rw [if_neg (fun q=>absurd (hiff.mpr q) Bool.false_ne_true)] at hR
      have hri:=Kb A.in1 ⟨hp,g,d,tk,os⟩ a t c u prog w
      wp_walk using hri
      exact ⟨_,rfl,by simpa using hR⟩
  case fin =>
   rintro ⟨b1,b2⟩ s' ⟨hb',rfl,vs,ws,ns',ms',hz,hvi,hwi,hlen,hR⟩
   simp only at hb'
   subst hb'
   have hv:lexLt ns' ms'=decide (items.size < items2.size):=by
    cases hvi with
    | nil =>
     cases hwi with
     | nil =>
      simp only [List.length_nil] at hlen
      rw [Ap]
      exact (decide_eq_false (by omega)).symm
     | cons c u hw =>
      simp only [List.length_nil,List.length_cons] at hlen
      rw [yQ]
      exact (decide_eq_true (by omega)).symm
    | cons a t hv =>
     cases hwi with
     | nil =>
      simp only [List.length_nil,List.length_cons] at hlen
      rw [yV]
      exact (decide_eq_false (by omega)).symm
     | cons c u hw =>
      rw [List.zip_cons_cons] at hz
      cases hz
   rw [hv] at hR
   wp_walk
   exact ⟨_,rfl,by simpa [Builtin.Tuple.tupleCompareSizes] using hR⟩
  case h =>
   exact ⟨rfl,rfl,items.toList,items2.toList,ns,ms,rfl,hi,hj,by omega,h⟩
end
section
variable {prog:Program} {w:World} {A:Around} {E:Value->Shared->Prop} {s:Shared}
theorem EG {l b:Addr} {items items2:Array Value} {ns ms:List Int} {Q:Value->Shared->Prop} (hl:IsTup s.heap l items) (hb:IsTup s.heap b items2) (hi:IntsAre items.toList ns) (hj:IntsAre items2.toList ms)
  (hu:A.units < cLine) (h:Q (.bool (lexLt ns ms)) s):wpAny (model prog w) A (compareOp .Lt (.ref l) (.ref b)) Q E s:=by
 obtain ⟨⟨cls,dd,data,sl⟩,ho,hc,n,hd⟩:=id hl
 obtain ⟨⟨cls2,dd2,data2,sl2⟩,ho2,hc2,n2,hd2⟩:=id hb
 simp only at hc hd hc2 hd2
 subst hc hd hc2 hd2
 exact richCompare_meets_room (op:=.Lt) ⟨_,ho,rfl⟩ ⟨_,ho2,rfl⟩ PySem.F.slot_tuple_lt PySem.F.entry_tuple_lt (PySem.F.args_tuple_lt_2 _ _) (An l b items items2 n n2 dd dd2 sl sl2 ns ms hi hj)
  ⟨ho,ho2,show Value.bool (lexLt ns ms)≠Value.notImplemented/\Q (.bool (lexLt ns ms)) s from ⟨(fun x=>nomatch x),h⟩⟩ hu
theorem ML {t b:Addr} {vs ws:List Value} {Q:Value->Shared->Prop} (ht:IsTup s.heap t vs.toArray) (hb:IsTup s.heap b ws.toArray) (hv:vs≠[])
  (h1:ws=[]->Q (.ref t) s) (h2:ws≠[]->Q (.ref s.heap.objs.size) { s with heap:=s.heap.push { cls:=.type "tuple",data:=.seq (vs++ws).toArray } })
  (hsz:vs.length + ws.length<=sizeLine):wpAny (model prog w) A (binaryOp .Add (.ref t) (.ref b)) Q E s:=by
 obtain ⟨⟨cls,dd,data,sl⟩,ho,hc,n,hd⟩:=id ht
 obtain ⟨⟨cls2,dd2,data2,sl2⟩,ho2,hc2,n2,hd2⟩:=id hb
 simp only at hc hd hc2 hd2
 subst hc hd hc2 hd2
 have e:vs.toArray++ws.toArray=(vs++ws).toArray:=by simp
 by_cases hw:ws=[]
 ·exact concat_meets ⟨_,ho,rfl⟩ ⟨_,ho2,rfl⟩ noFill_tuple_add seq_tuple_add PySem.F.slot_tuple_add PySem.F.entry_tuple_add (PySem.F.args_tuple_add_2 _ _)
   (tuple_addW1 t b vs.toArray ws.toArray n n2 dd dd2 sl sl2 (by simpa using hv) (by simp [hw])) ⟨ho,ho2,h1 hw⟩
 ·refine concat_meets ⟨_,ho,rfl⟩ ⟨_,ho2,rfl⟩ noFill_tuple_add seq_tuple_add PySem.F.slot_tuple_add PySem.F.entry_tuple_add (PySem.F.args_tuple_add_2 _ _)
   (tuple_addW2 t b vs.toArray ws.toArray n n2 dd dd2 sl sl2 (by simpa using hv) (by simpa using hw) (by rw [List.size_toArray,List.size_toArray];exact hsz)) ⟨ho,ho2,?_⟩
  rw [e]
  exact h2 hw
def bM (n d:Nat):Option Int->Nat
 | none=>d
 | some v=>if v < 0 then (v + (n:Int)).toNat else min v.toNat n
theorem Oe (n d:Nat) (hd:d<=n) (o:Option Int):bM n d o<=n:=by
 cases o with
 | none=>exact hd
 | some v =>
  show (if v < 0 then (v + (n:Int)).toNat else min v.toNat n)<=n
  by_cases hv:v < 0
  ·rw [if_pos hv];omega
  ·rw [if_neg hv];exact Nat.min_le_right _ _
theorem Dn (v:Int) (n d:Nat):(if v < 0 then max (v + (n:Int)) 0 else min v (n:Int))=((bM n d (some v):Nat):Int):=by
 show (if v < 0 then max (v + (n:Int)) 0 else min v (n:Int))=(((if v < 0 then (v + (n:Int)).toNat else min v.toNat n):Nat):Int)
 by_cases hv:v < 0
 ·simp only [if_pos hv];omega
 ·simp only [if_neg hv];omega
theorem Fi (lo hi:Option Int) (n:Nat):Builtin.Slice.sliceAdjust lo hi 1 (n:Int)=(((bM n 0 lo:Nat):Int),((bM n n hi:Nat):Int)):=by
 have h1:¬ ((1:Int) < 0):=by omega
 unfold Builtin.Slice.sliceAdjust
 simp only [h1,if_false]
 refine Prod.ext ?_ ?_
 ·cases lo with
  | none=>rfl
  | some v=>exact Dn v n 0
 ·cases hi with
  | none=>rfl
  | some v=>exact Dn v n n
theorem Eb (i j:Nat):Builtin.Slice.slicePlaces (i:Int) (j:Int) 1=j - i:=by
 unfold Builtin.Slice.slicePlaces
 have h1:(1:Int) > 0:=by omega
 simp only [h1,if_true,Int.ediv_one]
 split <;> omega
theorem wQ {v:Value} {o:Option Int} {Q:Option Int->Shared->Prop} (p:IsPart v o) (h:Q o s):wpAny (model prog w) A (Builtin.Slice.slicePartIndex v) Q E s:=by
 cases p with
 | none=>exact slicePart_none h
 | int i t=>exact slicePart_int h
theorem qC {sl:Addr} {vl vu:Value} {lo hi:Option Int} {n:Nat} {Q:Int × Int × Nat->Shared->Prop} (hs:s.heap.IsSliceOf sl vl vu .none) (pl:IsPart vl lo) (pu:IsPart vu hi)
  (h:Q (((bM n 0 lo:Nat):Int),1,bM n n hi - bM n 0 lo) s):wpAny (model prog w) A (Builtin.Slice.sliceApplied (.ref sl) (pure (n:Int))) Q E s:=by
 obtain ⟨os,hos,hcs,hds⟩:=id hs
 unfold Builtin.Slice.sliceApplied Builtin.Slice.sliceFields
 refine wpAny_bind (wpAny_bind (wpAny_field hos hds (x:=vl) rfl (wpAny_bind (wpAny_field hos hds (x:=vu) rfl (wpAny_bind (wpAny_field hos hds (x:=.none) rfl (wpAny_pure ?_)))))))
 refine wpAny_bind (slicePart_none ?_)
 show wpAny _ _ (if ((1:Int) == 0)=true then _ else _) _ _ s
 rw [if_neg (by decide)]
 refine wpAny_bind (wQ pl (wpAny_bind (wQ pu (wpAny_bind (wpAny_pure ?_)))))
 show wpAny _ _ (match Builtin.Slice.sliceAdjust lo hi 1 (n:Int) with | (lo,hi)=>pure (lo,(1:Int),Builtin.Slice.slicePlaces lo hi 1)) _ _ s
 rw [Fi lo hi n]
 show wpAny _ _ (pure (((bM n 0 lo:Nat):Int),(1:Int),Builtin.Slice.slicePlaces ((bM n 0 lo:Nat):Int) ((bM n n hi:Nat):Int) 1)) _ _ s
 rw [Eb]
 exact wpAny_pure h
theorem Jp (xs:Array Value) (i k:Nat):((List.range k).filterMap fun (m:Nat)=>xs[((i:Int) + (m:Int) * 1).toNat]?).toArray=((xs.toList.drop i).take k).toArray:=by
 have e:(fun (m:Nat)=>xs[((i:Int) + (m:Int) * 1).toNat]?)=fun m=>xs[i + m]?:=by
  funext m
  have:((i:Int) + (m:Int) * 1).toNat=i + m:=by omega
  rw [this]
 rw [e]
 have:=pick_run xs i k
 rw [List.filterMap_map] at this
 have e2:((fun x=>xs[x]?) ∘ fun x=>i + x)=fun m=>xs[i + m]?:=rfl
 rw [e2] at this
 rw [this]
theorem vE {t sl:Addr} {items:Array Value} {vl vu:Value} {lo hi:Option Int} {Q:Value->Shared->Prop} (ht:IsTup s.heap t items) (hs:s.heap.IsSliceOf sl vl vu .none) (pl:IsPart vl lo) (pu:IsPart vu hi)
  (hw:¬ (bM items.size 0 lo=0/\bM items.size items.size hi=items.size))
  (h:Q (.ref s.heap.objs.size) { s with heap:=s.heap.push { cls:=.type "tuple",data:=.seq ((items.toList.drop (bM items.size 0 lo)).take (bM items.size items.size hi - bM items.size 0 lo)).toArray } })
  (hsz:items.size<=sizeLine):wpAny (model prog w) A (getItem (.ref t) (.ref sl)) Q E s:=by
 have htake:sizeOk (.seq ((items.toList.drop (bM items.size 0 lo)).take (bM items.size items.size hi - bM items.size 0 lo)).toArray):=by
  show ((items.toList.drop (bM items.size 0 lo)).take (bM items.size items.size hi - bM items.size 0 lo)).toArray.size<=sizeLine
  rw [List.size_toArray,List.length_take,List.length_drop,Array.length_toList]
  omega
 have hj:bM items.size items.size hi<=items.size:=Oe _ _ (Nat.le_refl _) hi
 obtain ⟨os,hos,hcs,hds⟩:=id hs
 have hTs:s.TypeIs (.ref sl) "slice":=⟨os,hos,hcs⟩
 unfold getItem
 try with_reducible refine wpAny_holding ?_
 first | refine wpAny_bind (wpAny_pure ?_) | skip
 refine wpAny_bind (wpAny_sequenceKey ht.typeIs (by decide) ?_)
 refine wpAny_bind (wpAny_callSpecial?_slot (name:=Str.ofString "__getitem__") ht.typeIs PyProof.Rows.slot_tuple_getitem
  (wpAny_call_entry PyProof.Rows.slot_tuple_getitem ht.typeIs entry_tuple_getitem ?_ (args_tuple_getitem _ _)))
 show wpAny _ _ (Builtin.Tuple.tupleItemsOf (.ref t) >>= _) _ _ s
 refine wpAny_bind (tupleItemsOf_ ht ?_)
 refine wpAny_bind (wpAny_typeOf hTs ?_)
 rw [if_pos (by decide)]
 refine wpAny_bind (qC hs pl pu ?_)
 have hno:¬ ((((bM items.size 0 lo:Nat):Int) == 0 && (1:Int) == 1 && (bM items.size items.size hi - bM items.size 0 lo) == items.size)=true):=by
  intro q
  rw [Bool.and_eq_true,Bool.and_eq_true] at q
  have q1:((bM items.size 0 lo:Nat):Int)=0:=eq_of_beq q.1.1
  have q2:bM items.size items.size hi - bM items.size 0 lo=items.size:=eq_of_beq q.2
  exact hw ⟨by omega,by omega⟩
 show wpAny _ _ (if (((bM items.size 0 lo:Nat):Int) == 0 && (1:Int) == 1 && (bM items.size items.size hi - bM items.size 0 lo) == items.size)=true then _ else _) _ _ s
 rw [if_neg hno,Jp]
 first
  | exact wpAny_bind (m:=Builtin.Tuple.tupleExact _) (wpAny_newObj_type (wpAny_pure ⟨_,rfl,wpAny_pure h⟩) htake)
  | exact wpAny_bind (m:=Builtin.Tuple.tupleExact _) (wpAny_newObj_type (wpAny_bind (wpAny_pure (wpAny_pure ⟨_,rfl,wpAny_pure h⟩))) htake)
  | exact wpAny_bind (wpAny_bind (m:=Builtin.Tuple.tupleExact _) (wpAny_newObj_type (wpAny_pure (wpAny_pure ⟨_,rfl,wpAny_pure h⟩)) htake))
  | exact wpAny_bind (wpAny_bind (m:=Builtin.Tuple.tupleExact _) (wpAny_newObj_type (wpAny_pure ⟨_,rfl,wpAny_pure h⟩) htake))
end
end HT
namespace L2
open PySem PySem.Spec PyProof.Rows
abbrev TO:=St->Hp->(Option Int->Hp->Prop)->Prop
def PO (X:Cx) (e:Option Expr) (t:TO):Prop :=
 ∀ (pins:List (Addr × Obj)) (s:Shared) (σ:St) (H:Hp) (Q:Option Int->Hp->Prop),Inv X pins σ H s->t σ H Q ->
  wpAny (model X.prog X.w) X.A (evalPart e X.env) (fun u s'=>∃ o H',Inv X pins σ H' s'/\IsPart u o/\Q o H') X.xe s
def D6:TO:=fun _ H Q=>Q none H
def K5 (t:TE):TO:=fun σ H Q=>t σ H fun x H1=>∃ i,x=.int i/\Q (some i) H1
theorem intsAre_of {ns:List Int}:∀ {us:List Value},Vals (ns.map V.int) us->IntsAre us ns:=by
 induction ns with
 | nil=>intro us r;rw [List.map_nil] at r;cases r;exact .nil
 | cons n ns ih =>
  intro us r
  rw [List.map_cons] at r
  cases r with
  | cons r1 r2 =>
   obtain ⟨t,e⟩:=r1
   subst e
   exact .cons n t (ih r2)
section
variable {X:Cx} {e:Expr} {te:TE} {lo hi:Option Expr} {tl th:TO} {pos p2:Pos}
theorem Nv:PO X none D6:=by
 intro pins s σ H Q I h
 rw [evalPart_none]
 exact wpAny_pure ⟨none,H,I,.none,h⟩
theorem Nq (h:PE X e te):PO X (some e) (K5 te):=by
 intro pins s σ H Q I hw
 rw [evalPart_some]
 refine bG (h pins s σ H _ I hw) fun u s1 ⟨x,H1,I1,r1,q1⟩=>?_
 obtain ⟨i,rfl,q⟩:=q1
 obtain ⟨t,rfl⟩:=r1
 exact ⟨some i,H1,I1,.int i t,q⟩
def vK (X:Cx) (r:V->Option Int->Option Int->Hp->VK->Prop):Prop :=
 ∀ (pins:List (Addr × Obj)) (s:Shared) (σ:St) (H:Hp) (x:V) (v vl vu:Value) (lo hi:Option Int) (sl:Addr) (Q:VK),Inv X pins σ H s->RelV x v->s.heap.IsSliceOf sl vl vu .none->IsPart vl lo->IsPart vu hi->r x lo hi H Q ->
  ∃ T id,typeLookup (.type T) "__getitem__"=pure (some (.builtin id))/\s.TypeIs v T/\wpAny (model X.prog X.w) X.A (getItem v (.ref sl)) (EP X pins σ Q) X.xe s
theorem vK.or {r r':V->Option Int->Option Int->Hp->VK->Prop} (h:vK X r) (h':vK X r'):vK X (fun x lo hi H Q=>r x lo hi H Q\/r' x lo hi H Q):=by
 intro pins s σ H x v vl vu lo hi sl Q I rx hs pl pu q
 rcases q with q | q
 ·exact h pins s σ H x v vl vu lo hi sl Q I rx hs pl pu q
 ·exact h' pins s σ H x v vl vu lo hi sl Q I rx hs pl pu q
def Q5 (r:V->Option Int->Option Int->Hp->VK->Prop) (te:TE) (tl th:TO):TE:=fun σ H Q=>te σ H fun x H1=>tl σ H1 fun l H2=>th σ H2 fun u H3=>r x l u H3 Q
theorem JG {r:V->Option Int->Option Int->Hp->VK->Prop} (hr:vK X r) (he:PE X e te) (hl:PO X lo tl) (hu:PO X hi th):PE X (.Subscript e (.Slice lo hi none p2) pos) (Q5 r te tl th):=by
 intro pins s σ H Q I h
 refine Subscript_ (bG (he pins s σ H _ I h) fun v s1 ⟨x,H1,I1,r1,q1⟩=>?_)
 refine wpAny_Slice (bG (hl pins s1 σ H1 _ I1 q1) fun vl s2 ⟨l,H2,I2,pl,q2⟩=>bG (hu pins s2 σ H2 _ I2 q2) fun vu s3 ⟨u,H3,I3,pu,q3⟩=>?_)
 rw [evalPart_none]
 refine wpAny_pure ?_
 have I4:Inv X pins σ H3 { s3 with heap:=s3.heap.push { cls:=.type "slice",data:=.fields #[vl,vu,.none] } }:=I3.kept (t':=s3.toks) fun b ob q=>Heap.get?_push_of_some _ q
 obtain ⟨T,id,hT,ht,hg⟩:=hr pins { s3 with heap:=s3.heap.push { cls:=.type "slice",data:=.fields #[vl,vu,.none] } } σ H3 x v vl vu l u s3.heap.objs.size Q I4 r1 (Heap.IsSliceOf.new ..) pl pu q3
 show wpAny (model X.prog X.w) X.A (subscriptTail e (.Slice lo hi none p2) v (.ref s3.heap.objs.size)) (EP X pins σ Q) X.xe { s3 with heap:=s3.heap.push { cls:=.type "slice",data:=.fields #[vl,vu,.none] } }
 exact tail_any (ops:=[.ref s3.heap.objs.size,v]) ht hT hg (by with_unfolding_all rfl)
def qV (xs:List V) (lo hi:Option Int):List V:=(xs.drop (HT.bM xs.length 0 lo)).take (HT.bM xs.length xs.length hi - HT.bM xs.length 0 lo)
theorem vO (xs:List V) (lo hi:Option Int):(qV xs lo hi).length<=xs.length:=by
 unfold qV
 rw [List.length_take,List.length_drop]
 omega
def Rl (K:PySem.W.Frag):V->Option Int->Option Int->Hp->VK->Prop:=fun x lo hi H Q=>∃ a xs,x=.ref a/\fW K H a xs /\
 ¬ (HT.bM xs.length 0 lo=0/\HT.bM xs.length xs.length hi=xs.length)/\∀ p,H p=none->Q (.ref p) (upd H p (.tup (qV xs lo hi)))
theorem Pf:vK X (Rl X.K):=by
 intro pins s σ H x v vl vu lo hi sl Q I rx hs pl pu h
 obtain ⟨a,xs,rfl,hx,hw,q⟩:=h
 cases rx
 obtain ⟨its,r,ht,hz⟩:=I.tuple hx
 have hlen:its.toArray.size=xs.length:=by rw [List.size_toArray];exact r.length.symm
 refine ⟨"tuple",_,PyProof.Rows.slot_tuple_getitem.lookup,ht.typeIs,?_⟩
 refine HT.vE ht hs pl pu (by rw [hlen];exact hw) ?_ (by rw [hlen];exact hz)
 rw [hlen]
 refine ⟨.ref s.heap.objs.size,_,I.laid (t':=s.toks) (o:=.tup (qV xs lo hi)) (fun b ob q=>Heap.get?_push_of_some _ q) (Nat.le_refl _) ?_,rfl,q _ (I.hok.fresh (Nat.le_refl _))⟩
 exact ⟨Nat.le_trans (vO xs lo hi) hz,_,(r.drop (HT.bM xs.length 0 lo)).take (HT.bM xs.length xs.length hi - HT.bM xs.length 0 lo),iY.new _ _⟩
def Ro (K:PySem.W.Frag):R2:=fun x y H Q=>∃ a b ns ms,x=.ref a/\y=.ref b/\fW K H a (ns.map V.int)/\fW K H b (ms.map V.int)/\Q (.bl (HT.lexLt ns ms)) H
theorem PD (hu:X.A.units < cLine):dG X (compareOp .Lt) (Ro X.K):=by
 intro pins s σ H x y v u Q I rx ry h
 obtain ⟨a,b,ns,ms,rfl,rfl,ha,hb,q⟩:=h
 cases rx
 cases ry
 obtain ⟨its,r1,p1,_⟩:=I.tuple ha
 obtain ⟨its2,r2,p2,_⟩:=I.tuple hb
 have i1:IntsAre its.toArray.toList ns:=intsAre_of r1
 have i2:IntsAre its2.toArray.toList ms:=intsAre_of r2
 exact HT.EG p1 p2 i1 i2 hu ⟨.bl (HT.lexLt ns ms),H,I,rfl,q⟩
def Qd (K:PySem.W.Frag):R2:=fun x y H Q=>∃ a b xs ys,x=.ref a/\y=.ref b/\fW K H a xs/\fW K H b ys/\xs≠[]/\xs.length + ys.length<=sizeLine /\
 (ys=[]->Q (.ref a) H)/\(ys≠[]->∀ p,H p=none->Q (.ref p) (upd H p (.tup (xs++ys))))
theorem Vals.nil_iff {xs:List V} {us:List Value} (r:Vals xs us):us=[] ↔ xs=[]:=by
 cases r with
 | nil=>simp
 | cons _ _=>simp
theorem MG:dG X (binaryOp .Add) (Qd X.K):=by
 intro pins s σ H x y v u Q I rx ry h
 obtain ⟨a,b,xs,ys,rfl,rfl,ha,hb,hx,hz,q1,q2⟩:=h
 cases rx
 cases ry
 obtain ⟨its,r1,p1,_⟩:=I.tuple ha
 obtain ⟨its2,r2,p2,_⟩:=I.tuple hb
 refine HT.ML p1 p2 (fun z=>hx (r1.nil_iff.mp z)) (fun z=>⟨.ref a,H,I,rfl,q1 (r2.nil_iff.mp z)⟩) (fun z=>?_) (by rw [<- r1.length,<- r2.length];exact hz)
 refine ⟨.ref s.heap.objs.size,_,I.laid (t':=s.toks) (o:=.tup (xs++ys)) (fun b ob q=>Heap.get?_push_of_some _ q) (Nat.le_refl _) ?_,rfl,q2 (fun w=>z (r2.nil_iff.mpr w)) _ (I.hok.fresh (Nat.le_refl _))⟩
 exact ⟨by rw [List.length_append];exact hz,_,r1.append r2,iY.new _ _⟩
end
def qQ (n:Nat) (i:Int):Option Nat:=if 0<=i then (if i < n then some i.toNat else none) else if -(n:Int)<=i then some (i + n).toNat else none
def dM {α:Type} (xs:List α) (i:Int):Option α:=(qQ xs.length i).bind fun j=>xs[j]?
theorem MP {n:Nat} {i:Int} {j:Nat} (h:qQ n i=some j):seqIndex? i n=some j/\j < n/\-(n:Int)<=i/\i < n:=by
 unfold qQ at h
 by_cases h0:0<=i
 ·rw [if_pos h0] at h
  by_cases h1:i < n
  ·rw [if_pos h1] at h
   have e:i.toNat=j:=Option.some.inj h
   exact ⟨by rw [seqIndex_of h0 h1,e],by omega,by omega,h1⟩
  ·rw [if_neg h1] at h;cases h
 ·rw [if_neg h0] at h
  by_cases h1:-(n:Int)<=i
  ·rw [if_pos h1] at h
   have e:(i + n).toNat=j:=Option.some.inj h
   exact ⟨by rw [seqIndex_neg (by omega) h1,e],by omega,h1,by omega⟩
  ·rw [if_neg h1] at h;cases h
theorem yU {α:Type} {xs:List α} {i:Int} {v:α} (h:dM xs i=some v):∃ j,seqIndex? i xs.length=some j/\xs[j]?=some v/\j < xs.length/\-(xs.length:Int)<=i/\i < xs.length:=by
 unfold dM at h
 cases e:qQ xs.length i with
 | none=>rw [e] at h;cases h
 | some j =>
  rw [e] at h
  obtain ⟨h1,h2,h3,h4⟩:=MP e
  exact ⟨j,h1,h,h2,h3,h4⟩
theorem kN {α:Type} {xs:List α} {j:Nat} {v:α} (h:xs[j]?=some v):dM xs (j:Int)=some v:=by
 have hj:j < xs.length:=(List.getElem?_eq_some_iff.mp h).1
 have e:qQ xs.length (j:Int)=some j:=by
  unfold qQ
  rw [if_pos (by omega),if_pos (by omega)];simp
 unfold dM;rw [e];exact h
theorem AZ {α:Type} (xs:List α) (v:α):dM (xs++[v]) (-1)=some v:=by
 have hl:(xs++[v]).length=xs.length + 1:=by simp
 have e:qQ (xs++[v]).length (-1)=some xs.length:=by
  unfold qQ
  rw [hl,if_neg (by decide),if_pos (by omega)]
  congr 1
  omega
 unfold dM
 rw [e]
 show (xs++[v])[xs.length]?=some v
 simp
def u7 (b:Expr):Prop:=∀ o i,subscripted b false o i=operate [o,i] (getItem o i)
def w4 (X:Cx) (r:R2):Prop :=
 ∀ (value slice:Expr) (pins:List (Addr × Obj)) (s:Shared) (σ:St) (H:Hp) (x y:V) (v u:Value) (Q:VK),Inv X pins σ H s->RelV x v->RelV y u->r x y H Q ->
  subscripted slice false v u=operate [v,u] (getItem v u)->wpAny (model X.prog X.w) X.A (subscriptTail value slice v u) (EP X pins σ Q) X.xe s
def QW (X:Cx) (id:String) (r:V->List V->Hp->VK->Prop):Prop :=
 ∀ (pins:List (Addr × Obj)) (s:Shared) (σ:St) (H:Hp) (x:V) (xs:List V) (v:Value) (us:List Value) (Q:VK),Inv X pins σ H s->RelV x v->Vals xs us->r x xs H Q ->
  wpAny (model X.prog X.w) X.A (call (.builtin id) (v :: us)) (EP X pins σ Q) X.xe s
section
variable {X:Cx} {a b:Expr} {ta tb:TE} {pos:Pos}
theorem w4.or {r r':R2} (h:w4 X r) (h':w4 X r'):w4 X (fun x y H Q=>r x y H Q\/r' x y H Q):=by
 intro value slice pins s σ H x y v u Q I rx ry q hs
 rcases q with q | q
 ·exact h value slice pins s σ H x y v u Q I rx ry q hs
 ·exact h' value slice pins s σ H x y v u Q I rx ry q hs
theorem QD {r:R2} (hr:w4 X r) (ha:PE X a ta) (hb:PE X b tb) (hs:u7 b):PE X (.Subscript a b pos) (Bx r ta tb):=by
 intro pins s σ H Q I h
 exact Subscript_ (Gm ha hb I h fun v u s2 x y H2 I2 rx ry q=>hr a b pins s2 σ H2 x y v u Q I2 rx ry q (hs _ _))
def PR (K:PySem.W.Frag):R2:=fun x y H Q=>∃ p xs i v,x=.ref p/\y=.int i/\eO K H p xs/\dM xs i=some v/\Q v H
def O8 (K:PySem.W.Frag):R2:=fun x y H Q=>∃ p xs i v,x=.ref p/\y=.int i/\fW K H p xs/\dM xs i=some v/\Q v H
def Pq:R2:=fun x y H Q=>∃ z i c,x=.str z/\y=.int i/\z.length<=sizeLine/\dM z.cps.toList i=some c/\Q (.str ⟨#[c]⟩) H
theorem LX:w4 X (PR X.K):=by
 intro value slice pins s σ H x y v u Q I rx ry h hs
 obtain ⟨p,xs,i,z,rfl,rfl,hq,he,q⟩:=h
 cases rx
 obtain ⟨t,rfl⟩:=ry
 obtain ⟨its,r,pl,hz⟩:=I.list hq
 obtain ⟨j,h1,h2,h3,h4,h5⟩:=yU he
 obtain ⟨w,ew,rw'⟩:=r.get h2
 have hl:=r.length
 have hn:=uT
 have fin:EP X pins σ Q w s:=⟨z,H,I,rw',q⟩
 by_cases h0:0<=i
 ·have hj:i.toNat=j:=by
   rw [seqIndex_of h0 h5] at h1
   exact Option.some.inj h1
  exact item_listR pl.isList h0 (by omega) (by rw [hj];simpa using ew) fin hs
 ·have hj:(i + (its.toArray.size:Int)).toNat=j:=by
   rw [seqIndex_neg (by omega) h4] at h1
   rw [List.size_toArray,<- hl]
   exact Option.some.inj h1
  exact subscriptTail_builtinR (x:=w) pl.isList.typeIs slot_list_getitem.lookup
   (wpAny_getItem_list_neg (Q:=fun r s'=>r=w/\EP X pins σ Q r s') pl.isList (by omega) (by rw [List.size_toArray] <;> omega) (by omega) (by rw [hj];simpa using ew) ⟨rfl,fin⟩) hs
theorem N9:w4 X (O8 X.K):=by
 intro value slice pins s σ H x y v u Q I rx ry h hs
 obtain ⟨p,xs,i,z,rfl,rfl,hq,he,q⟩:=h
 cases rx
 obtain ⟨t,rfl⟩:=ry
 obtain ⟨its,r,pl,hz⟩:=I.tuple hq
 obtain ⟨j,h1,h2,h3,h4,h5⟩:=yU he
 obtain ⟨w,ew,rw'⟩:=r.get h2
 have hl:=r.length
 have hn:=uT
 have fin:EP X pins σ Q w s:=⟨z,H,I,rw',q⟩
 exact subscriptTail_builtinR (x:=w) pl.typeIs slot_tuple_getitem.lookup
  (getItem_tuple (j:=j) (Q:=fun r s'=>r=w/\EP X pins σ Q r s') pl (by omega) (by omega) (by rw [List.size_toArray,<- hl];exact h1) (by simpa using ew) ⟨rfl,fin⟩) hs
theorem Pj:w4 X Pq:=by
 intro value slice pins s σ H x y v u Q I rx ry h hs
 obtain ⟨z,i,c,rfl,rfl,hz,he,q⟩:=h
 obtain ⟨t,rfl⟩:=rx
 obtain ⟨t',rfl⟩:=ry
 obtain ⟨j,h1,h2,h3,h4,h5⟩:=yU he
 have hl:z.cps.toList.length=z.length:=by simp [Str.length]
 rw [hl] at h1 h4 h5
 have hn:=uT
 exact tail_any (typeIs_str s z t) slot_str_getitem.lookup (getItem_str (c:=c) (by
  have e1:decide (i < -(2 ^ 63:Int))=false:=decide_eq_false (by omega)
  have e2:decide (i ≥ 2 ^ 63)=false:=decide_eq_false (by omega)
  rw [e1,e2,Bool.or_false]) (by rw [h1];simpa using h2) ⟨.str ⟨#[c]⟩,H,I.tok _,⟨_,rfl⟩,q⟩) hs
def Q7 (K:PySem.W.Frag):R2:=fun x y H Q=>PR K x y H Q\/O8 K x y H Q\/Pq x y H Q
theorem NK:w4 X (Q7 X.K):=LX.or (N9.or Pj)
theorem Bb (lo hi:Option Int) (n:Nat):(sliceBounds lo hi none n).1=((HT.bM n 0 lo:Nat):Int)/\(sliceBounds lo hi none n).2.1=((HT.bM n n hi:Nat):Int)/\(sliceBounds lo hi none n).2.2=1:=by
 refine ⟨?_,?_,rfl⟩
 ·cases lo with
  | none=>simp [sliceBounds,HT.bM]
  | some i =>
   simp only [sliceBounds,HT.bM,Option.getD_none,show (1:Int) > 0 by decide,if_true]
   by_cases h:i < 0
   ·simp only [h,if_true] <;> omega
   ·simp only [h,if_false] <;> omega
 ·cases hi with
  | none=>simp [sliceBounds,HT.bM]
  | some i =>
   simp only [sliceBounds,HT.bM,Option.getD_none,show (1:Int) > 0 by decide,if_true]
   by_cases h:i < 0
   ·simp only [h,if_true] <;> omega
   ·simp only [h,if_false] <;> omega
theorem Au (its:List Value) (lo hi:Option Int):slicePick its.toArray lo hi none=((its.drop (HT.bM its.length 0 lo)).take (HT.bM its.length its.length hi - HT.bM its.length 0 lo)).toArray:=by
 obtain ⟨h1,h2,h3⟩:=Bb lo hi its.toArray.size
 unfold slicePick
 rw [h1,h2,h3]
 simp only [sliceRange_one,pick_run,List.size_toArray] <;> rfl
def Rt (K:PySem.W.Frag):V->Option Int->Option Int->Hp->VK->Prop:=fun x lo hi H Q=>∃ a xs,x=.ref a/\eO K H a xs/\∀ p,H p=none->Q (.ref p) (upd H p (.lst (qV xs lo hi)))
theorem Nx:vK X (Rt X.K):=by
 intro pins s σ H x v vl vu lo hi sl Q I rx hs pl pu h
 obtain ⟨a,xs,rfl,hx,q⟩:=h
 cases rx
 obtain ⟨its,r,ht,hz⟩:=I.list hx
 have hlen:=r.length
 refine ⟨"list",_,slot_list_getitem.lookup,ht.isList.typeIs,?_⟩
 refine wpAny_getItem_list_slice ht.isList hs pl pu .none (by simp) ?_ (by rw [List.size_toArray] <;> omega)
 rw [Au,<- hlen]
 refine ⟨.ref s.heap.objs.size,_,I.laid (t':=s.toks) (o:=.lst (qV xs lo hi)) (fun b ob q=>Heap.get?_push_of_some _ q) (Nat.le_refl _) ?_,rfl,q _ (I.hok.fresh (Nat.le_refl _))⟩
 exact ⟨Nat.le_trans (vO xs lo hi) hz,_,0,(r.drop (HT.bM xs.length 0 lo)).take (HT.bM xs.length xs.length hi - HT.bM xs.length 0 lo),Heap.get?_push_size _ rfl⟩
def kI:V->Bool
 | .non=>true
 | .bl _=>true
 | .int _=>true
 | .str _=>true
 | _=>false
def xW:V->V->Bool
 | .non,.non=>true
 | .bl a,.bl b=>a == b
 | .bl a,.int b=>(if a then 1 else 0) == b
 | .int a,.bl b=>a == (if b then 1 else 0)
 | .int a,.int b=>a == b
 | .str a,.str b=>a == b
 | _,_=>false
theorem OR {A:Around} {s:Shared} {y x:V} {u v:Value} (ry:RelV y u) (rx:RelV x v) (fy:kI y=true) (fx:kI x=true):SeqAt.EqAt A s u v (xW y x):=by
 cases y with
 | non =>
  cases ry
  cases x with
  | non=>cases rx;exact SeqAt.EqAt.same _
  | bl b=>cases rx;exact SeqAt.EqAt.none_bool b
  | int b=>obtain ⟨t,rfl⟩:=rx;exact SeqAt.EqAt.none_int b t
  | str b=>obtain ⟨t,rfl⟩:=rx;exact SeqAt.EqAt.none_str b t
  | _=>exact absurd (show false=true from fx) Bool.false_ne_true
 | bl a =>
  cases ry
  cases x with
  | non=>cases rx;exact SeqAt.EqAt.bool_none a
  | bl b=>cases rx;exact SeqAt.EqAt.bool_bool a b
  | int b=>obtain ⟨t,rfl⟩:=rx;exact SeqAt.EqAt.bool_int a b t
  | str b=>obtain ⟨t,rfl⟩:=rx;exact SeqAt.EqAt.bool_str a b t
  | _=>exact absurd (show false=true from fx) Bool.false_ne_true
 | int a =>
  obtain ⟨t',rfl⟩:=ry
  cases x with
  | non=>cases rx;exact SeqAt.EqAt.int_none a t'
  | bl b=>cases rx;exact SeqAt.EqAt.int_bool a t' b
  | int b=>obtain ⟨t,rfl⟩:=rx;exact SeqAt.EqAt.int_int a t' b t
  | str b=>obtain ⟨t,rfl⟩:=rx;exact SeqAt.EqAt.int_str a t' b t
  | _=>exact absurd (show false=true from fx) Bool.false_ne_true
 | str a =>
  obtain ⟨t',rfl⟩:=ry
  cases x with
  | non=>cases rx;exact SeqAt.EqAt.str_none a t'
  | bl b=>cases rx;exact SeqAt.EqAt.str_bool a t' b
  | int b=>obtain ⟨t,rfl⟩:=rx;exact SeqAt.EqAt.str_int a t' b t
  | str b=>obtain ⟨t,rfl⟩:=rx;exact SeqAt.EqAt.str_str a t' b t
  | _=>exact absurd (show false=true from fx) Bool.false_ne_true
 | _=>exact absurd (show false=true from fy) Bool.false_ne_true
def wR (x:V) (u:Value):Bool:=match u with
 | .none=>xW .non x
 | .bool b=>xW (.bl b) x
 | .int i _=>xW (.int i) x
 | .str z _=>xW (.str z) x
 | _=>false
theorem HZ {x y:V} {u:Value} (r:RelV y u) (f:kI y=true):wR x u=xW y x:=by
 cases y with
 | non=>cases r;rfl
 | bl b=>cases r;rfl
 | int i=>obtain ⟨t,rfl⟩:=r;rfl
 | str z=>obtain ⟨t,rfl⟩:=r;rfl
 | _=>exact absurd (show false=true from f) Bool.false_ne_true
theorem yJ {x:V}:∀ {xs:List V} {us:List Value},Vals xs us->xs.all kI=true->us.any (wR x)=xs.any fun y=>xW y x
 | _,_,.nil,_=>rfl
 | y :: xs,u :: us,.cons r t,f=>by
  rw [List.all_cons,Bool.and_eq_true] at f
  rw [List.any_cons,List.any_cons,HZ r f.1,yJ t f.2]
theorem wK {A:Around} {s:Shared} {x:V} {v:Value} (rx:RelV x v) (fx:kI x=true):∀ {xs:List V} {us:List Value},Vals xs us->xs.all kI=true->∀ u∈us,SeqAt.EqAt A s u v (wR x u)
 | _,_,.nil,_=>fun u hu=>by cases hu
 | y :: xs,u :: us,.cons r t,f=>fun u' hu=>by
  rw [List.all_cons,Bool.and_eq_true] at f
  rcases List.mem_cons.mp hu with rfl | hu
  ·rw [HZ r f.1];exact OR r rx f.1 fx
  ·exact wK rx fx t f.2 u' hu
def Lk (x:V) (xs:List V):Bool:=xs.any fun y=>xW y x
def QT (K:PySem.W.Frag) (neg:Bool):R2:=fun x y H Q=>∃ p xs,y=.ref p/\(eO K H p xs\/fW K H p xs)/\kI x=true/\xs.all kI=true/\Q (.bl (if neg then !Lk x xs else Lk x xs)) H
theorem Iy:dG X (compareOp .In) (QT X.K false):=by
 intro pins s σ H x y v u Q I rx ry h
 obtain ⟨p,xs,rfl,hq,fx,fs,q⟩:=h
 cases ry
 rcases hq with hq | hq
 ·obtain ⟨its,r,pl,hz⟩:=I.list hq
  refine SeqAt.in_listAt (wR x) pl.isList (fun w hw=>wK rx fx r fs w (by simpa using hw)) ⟨.bl _,H,I,rfl,?_⟩
  rw [show its.toArray.any (wR x)=its.any (wR x) by simp,yJ r fs]
  exact q
 ·obtain ⟨its,r,pl,hz⟩:=I.tuple hq
  refine SeqAt.in_tupleAt (wR x) pl (fun w hw=>wK rx fx r fs w (by simpa using hw)) ⟨.bl _,H,I,rfl,?_⟩
  rw [show its.toArray.any (wR x)=its.any (wR x) by simp,yJ r fs]
  exact q
theorem iB.or {f:Value} {r r':List V->Hp->VK->Prop} (h:iB X f r) (h':iB X f r'):iB X f (fun xs H Q=>r xs H Q\/r' xs H Q):=by
 intro pins s σ H xs us Q I rs q
 rcases q with q | q
 ·exact h pins s σ H xs us Q I rs q
 ·exact h' pins s σ H xs us Q I rs q
theorem Bh:iB X (.type "list") (fun xs H Q=>∃ p ys,xs=[.ref p]/\(eO X.K H p ys\/fW X.K H p ys)/\∀ l,H l=none->Q (.ref l) (upd H l (.lst ys))):=by
 intro pins s σ H xs us Q I r h
 obtain ⟨p,ys,rfl,hq,q⟩:=h
 obtain ⟨u,rfl,rx⟩:=vals1 r
 cases rx
 have fin:∀ (its:List Value),Vals ys its->ys.length<=sizeLine->∀ (h':Heap) (c':Nat),(∀ b o',s.heap.get? b=some o'->h'.get? b=some o') ->
   h'.get? s.heap.objs.size=some { cls:=.type "list",dict:=none,data:=.seq its.toArray c',slots:=#[] }->EP X pins σ Q (.ref s.heap.objs.size) { s with heap:=h' }:=fun its r' hz h' c' kp e =>
  ⟨.ref s.heap.objs.size,_,I.laid (t':=s.toks) kp (Nat.le_refl _) (show bR X.prog X.w _ h' _ (.lst ys) from ⟨hz,its,c',r',e⟩),rfl,q _ (I.hok.fresh (Nat.le_refl _))⟩
 rcases hq with hq | hq
 ·obtain ⟨its,r',pl,hz⟩:=I.list hq
  have hlen:=r'.length
  obtain ⟨o,ho,hc,n,hd⟩:=pl.isList
  exact call_list_seq p (.inl rfl) ho hc hd (fun h' c' kp e=>fin its r' hz h' c' kp e) (by simp only [List.size_toArray] <;> omega)
 ·obtain ⟨its,r',pl,hz⟩:=I.tuple hq
  have hlen:=r'.length
  obtain ⟨o,ho,hc,n,hd⟩:=pl
  exact call_list_seq p (.inr rfl) ho hc hd (fun h' c' kp e=>fin its r' hz h' c' kp e) (by simp only [List.size_toArray] <;> omega)
theorem Al:iB X (.type "tuple") (fun xs H Q=>∃ p ys,xs=[.ref p]/\((eO X.K H p ys/\∀ l,H l=none->Q (.ref l) (upd H l (.tup ys)))\/(fW X.K H p ys/\Q (.ref p) H))):=by
 intro pins s σ H xs us Q I r h
 obtain ⟨p,ys,rfl,h⟩:=h
 obtain ⟨u,rfl,rx⟩:=vals1 r
 cases rx
 rcases h with ⟨hq,q⟩ | ⟨hq,q⟩
 ·obtain ⟨its,r',pl,hz⟩:=I.list hq
  have hlen:=r'.length
  refine call_tuple_list pl.isList (fun h' kp=>?_) (by simp only [List.size_toArray] <;> omega)
  have I1:Inv X pins σ H { s with heap:=h' }:=I.kept (t':=s.toks) kp
  have I2:Inv X pins σ (upd H h'.objs.size (.tup ys)) { s with heap:=h'.push { cls:=.type "tuple",data:=.seq its.toArray } } :=
   I1.laid (t':=s.toks) (fun b o e=>Heap.get?_push_of_some _ e) (Nat.le_refl _) (show bR X.prog X.w _ _ _ (.tup ys) from ⟨hz,its,r',iY.new _ _⟩)
  exact ⟨.ref h'.objs.size,_,I2,rfl,q _ (I1.hok.fresh (Nat.le_refl _))⟩
 ·obtain ⟨its,r',pl,hz⟩:=I.tuple hq
  exact call_tuple_same pl ⟨.ref p,H,I,rfl,q⟩
def KZ (K:PySem.W.Frag) (T:String) (x:V) (H:Hp):Prop:=match x with
 | .str _=>T="str"
 | .int _=>T="int"
 | .ref p=>(T="list"/\∃ xs,eO K H p xs)\/(T="tuple"/\∃ o,K.lookup p=some o/\o.cls=.type "tuple"/\o.dict=none) \/
   (T="dict"/\((∃ kvs,H p=some (.dK kvs))\/∃ kvs,H p=some (.dT kvs)))\/(T="set"/\∃ S n,H p=some (.set S n))
 | _=>False
theorem HH {pins:List (Addr × Obj)} {σ:St} {H:Hp} {s:Shared} {T:String} {x:V} {v:Value} (I:Inv X pins σ H s) (r:RelV x v) (ty:KZ X.K T x H) :
  s.TypeIs v T/\∀ a,v=.ref a->∃ ob,s.heap.get? a=some ob/\ob.dict=none:=by
 cases x with
 | str z =>
  obtain ⟨t,rfl⟩:=r
  cases (show T="str" from ty)
  exact ⟨typeIs_str s z t,fun _ e=>nomatch e⟩
 | int i =>
  obtain ⟨t,rfl⟩:=r
  cases (show T="int" from ty)
  exact ⟨typeIs_int s i t,fun _ e=>nomatch e⟩
 | ref p =>
  cases r
  rcases ty with ⟨rfl,xs,hq⟩ | ⟨rfl,o,hk,hc,hd⟩ | ⟨rfl,hk⟩ | ⟨rfl,S,n,hk⟩
  ·obtain ⟨its,_,pl,_⟩:=I.list hq
   refine ⟨pl.isList.typeIs,fun a e=>?_⟩
   cases e
   obtain ⟨o,n,e,c,hd,_⟩:=pl
   exact ⟨o,e,hd⟩
  ·refine ⟨⟨o,I.kIn p o hk,hc⟩,fun a e=>?_⟩
   cases e
   exact ⟨o,I.kIn _ o hk,hd⟩
  ·have z:∃ o,s.heap.get? p=some o/\o.ExactDict:=by
    rcases hk with ⟨kvs,hk⟩ | ⟨kvs,hk⟩
    ·obtain ⟨_,_,_,_,o,_,_,e,ex,_⟩:=I.hok p _ hk
     exact ⟨o,e,ex⟩
    ·obtain ⟨_,_,_,_,o,_,_,e,ex,_⟩:=I.hok p _ hk
     exact ⟨o,e,ex⟩
   obtain ⟨o,e,ex⟩:=z
   refine ⟨⟨o,e,ex.1⟩,fun a e2=>?_⟩
   cases e2
   exact ⟨o,e,ex.2.1⟩
  ·obtain ⟨o,_,_,_,e,ex,_⟩:=I.hok p _ hk
   refine ⟨⟨o,e,ex.1⟩,fun a e2=>?_⟩
   cases e2
   exact ⟨o,e,ex.2.1⟩
 | _=>exact False.elim ty
def ND (K:PySem.W.Frag) (T:String) (r:V->List V->Hp->VK->Prop) (to:TE):TE:=fun σ H Q=>to σ H fun x H1=>KZ K T x H1/\r x [] H1 Q
def Q0 (K:PySem.W.Frag) (T:String) (r:V->List V->Hp->VK->Prop) (to:TE) (t:TA):TE:=fun σ H Q=>to σ H fun x H1=>KZ K T x H1/\t σ H1 fun xs H2=>r x xs H2 Q
variable {o e:Expr} {es:List Expr} {to:TE} {t:TA} {name:Str} {apos cpos:Pos} {T id:String} {r:V->List V->Hp->VK->Prop}
theorem N3 (pa:PlainAttrs T) (slot:Slot T name id) (hty:typeOf (.builtin id)=pure (.type "method_descriptor")) (hm:QW X id r) (ho:PE X o to)
  (hbase:attributeBase o name X.env (eval o X.env)=eval o X.env:=by rfl) (hline:(apos.endLine == cpos.line)=true:=by rfl):PE X (.Call (.Attribute o name apos) [] [] cpos) (ND X.K T r to):=by
 intro pins s σ H Q I h
 refine wpAny_Call_method0_late hbase hline (bG (ho pins s σ H _ I h) fun v s1 ⟨x,H1,I1,r1,ty,q1⟩=>?_)
 obtain ⟨h1,h2⟩:=HH I1 r1 ty
 exact ⟨T,id,pa,slot,hty,h1,h2,Calls.callWith_builtin rfl (PySem.evalArgs_none (hm pins s1 σ H1 x [] v [] Q I1 r1 .nil q1))⟩
theorem EO (pa:PlainAttrs T) (slot:Slot T name id) (hty:typeOf (.builtin id)=pure (.type "method_descriptor")) (hm:QW X id r) (ho:PE X o to) (ha:PA X (e :: es) t)
  (hbase:attributeBase o name X.env (eval o X.env)=eval o X.env:=by rfl)
  (hfew:((backTo cpos (starEach (e :: es) X.env)).all (fun x=>!x.1) && (backToKw cpos (keywordEach [] X.env)).all (fun x=>x.1.isSome)
   && decide ((e :: es).length + ([]:List Keyword).length + (if ([]:List Keyword).isEmpty then 0 else 1) < 30))=true:=by rfl)
  (hline:(apos.endLine == cpos.line)=true:=by rfl) (hs:starEach (e :: es) X.env=(false,eval e X.env) :: starEach es X.env:=by rfl) (hplain:(backTo cpos (starEach es X.env)).any (·.1)=false:=by rfl) :
  PE X (.Call (.Attribute o name apos) (e :: es) [] cpos) (Q0 X.K T r to t):=by
 intro pins s σ H Q I h
 refine wpAny_Call_method_late hbase hfew hline rfl (bG (ho pins s σ H _ I h) fun v s1 ⟨x,H1,I1,r1,ty,q1⟩=>?_)
 obtain ⟨h1,h2⟩:=HH I1 r1 ty
 refine ⟨T,id,pa,slot,hty,h1,h2,?_⟩
 have hA:=ha cpos pins s1 σ H1 _ I1 q1
 rw [hs] at hA ⊢
 refine Calls.callWith_builtin (by show (false || (backTo cpos (starEach es X.env)).any (·.1))=false;rw [hplain] <;> rfl) (Calls.evalArgs_plain ?_)
 exact bG hA fun us s2 ⟨vs,H2,I2,r2,q2⟩=>hm pins s2 σ H2 x vs v us Q I2 r1 r2 q2
end
def Lc (X:Cx) (id:String) (r:V->List V->Hp->VK->Prop):Prop :=
 ∀ (pins:List (Addr × Obj)) (s:Shared) (σ:St) (H:Hp) (x:V) (xs:List V) (v:Value) (us:List Value) (Q:VK),Inv X pins σ H s->RelV x v->Vals xs us->r x xs H Q ->
  wpAny (model X.prog X.w) X.A (call (.builtin id) (v :: us)) (EP X pins σ Q) X.xe s
theorem Vals.one:∀ {x:V} {us:List Value},Vals [x] us->∃ u,us=[u]/\RelV x u
 | _,_,.cons r .nil=>⟨_,rfl,r⟩
theorem Vals.zero:∀ {us:List Value},Vals [] us->us=[]
 | _,.nil=>rfl
theorem Vals.dropLast {xs:List V} {us:List Value} (h:Vals xs us):Vals xs.dropLast us.dropLast:=by
 induction h with
 | nil=>exact .nil
 | cons r t ih =>
  cases t with
  | nil=>exact .nil
  | cons q t'=>exact .cons r ih
theorem Vals.eraseIdx:∀ {xs:List V} {us:List Value} (i:Nat),Vals xs us->Vals (xs.eraseIdx i) (us.eraseIdx i)
 | _,_,_,.nil=>.nil
 | _,_,0,.cons _ t=>t
 | _,_,i + 1,.cons r t=>.cons r (Vals.eraseIdx i t)
theorem Vals.reverse {xs:List V} {us:List Value} (h:Vals xs us):Vals xs.reverse us.reverse:=by
 induction h with
 | nil=>exact .nil
 | cons r t ih=>rw [List.reverse_cons,List.reverse_cons];exact Vals.append ih (.cons r .nil)
theorem Vals.rep {xs:List V} {us:List Value} (h:Vals xs us):∀ k:Nat,Vals (List.replicate k xs).flatten (List.replicate k us).flatten
 | 0=>.nil
 | k + 1=>by
  rw [List.replicate_succ,List.replicate_succ,List.flatten_cons,List.flatten_cons]
  exact Vals.append h (Vals.rep h k)
theorem Eu {α:Type} (l:List α):l.eraseIdx (l.length - 1)=l.dropLast:=by
 induction l with
 | nil=>rfl
 | cons a r ih =>
  cases r with
  | nil=>rfl
  | cons b r =>
   have e:(a :: b :: r).length - 1=((b :: r).length - 1) + 1:=by
    have h1:(a :: b :: r).length=r.length + 2:=rfl
    have h2:(b :: r).length=r.length + 1:=rfl
    omega
   rw [e,List.eraseIdx_cons_succ,ih]
   all_goals rfl
theorem zP {α:Type}:∀ (l:List α) (i:Nat),(l.eraseIdx i).length<=l.length
 | [],_=>Nat.le_refl _
 | _ :: _,0=>Nat.le_succ _
 | _ :: r,i + 1=>Nat.succ_le_succ (zP r i)
theorem foldl_rep (its:List Value):∀ (k:Nat) (acc:List Value),
  List.foldl (fun x1 x2=>x1++x2) acc.toArray (List.replicate k its.toArray)=(acc++(List.replicate k its).flatten).toArray
 | 0,acc=>by simp
 | k + 1,acc=>by
  have e:acc.toArray++its.toArray=(acc++its).toArray:=by simp
  have e2:(acc++its)++(List.replicate k its).flatten=acc++(List.replicate (k + 1) its).flatten:=by
   rw [List.replicate_succ,List.flatten_cons,List.append_assoc]
  rw [<- e2,<- foldl_rep its k (acc++its),<- e,List.replicate_succ,List.foldl_cons]
section
variable {X:Cx} {pins:List (Addr × Obj)} {σ:St} {H:Hp} {s:Shared} {l b:Addr} {xs ys zs:List V}
theorem Inv.lset {its its':List Value} {n:Nat} {f:Array Value->Array Value} {t':Nat} (I:Inv X pins σ H s) (hH:H l=some (.lst xs))
  (e:s.heap.get? l=some { cls:=.type "list",data:=.seq its.toArray n }) (hf:f its.toArray=its'.toArray) (hv:Vals ys its') (hz:ys.length<=sizeLine) :
  Inv X pins σ (upd H l (.lst ys)) { s with heap:=s.heap.update l (Obj.mapSeq f),toks:=t' }:=by
 have q:=PySem.IsL.update e f
 rw [hf] at q
 refine I.write (x:=l) (e:=l) (by rw [hH];exact trivial) (.inl rfl) (fun b' u hb hu=>(Heap.get?_update_other s.heap (Obj.mapSeq f) (Ne.symm hb)).trans hu) ⟨_,q⟩ ?_
 exact ⟨hz,its',_,hv,q⟩
theorem Inv.lnew {its:List Value} {t':Nat} (I:Inv X pins σ H s) (hv:Vals ys its) (hz:ys.length<=sizeLine) :
  Inv X pins σ (upd H s.heap.objs.size (.lst ys)) { s with heap:=s.heap.push { cls:=.type "list",data:=.seq its.toArray },toks:=t' } :=
 I.laid (fun _ _ q=>Heap.get?_push_of_some _ q) (Nat.le_refl _) ⟨hz,its,0,hv,Heap.get?_push_size _ rfl⟩
theorem Inv.fresh (I:Inv X pins σ H s):H s.heap.objs.size=none:=I.hok.fresh (Nat.le_refl _)
theorem Inv.lstM (I:Inv X pins σ H s) (hH:H l=some (.lst xs)):xs.length<=sizeLine/\∃ (its:List Value) (n:Nat),Vals xs its/\xs.length=its.length/\s.heap.get? l=some { cls:=.type "list",data:=.seq its.toArray n }:=by
 obtain ⟨z,its,n,r,e⟩:=I.hok l _ hH
 exact ⟨z,its,n,r,r.length,e⟩
theorem Cb {n:Nat} (h:n<=sizeLine):Builtin.List.listTooLong n=false:=by
 unfold Builtin.List.listTooLong
 exact decide_eq_false (by omega)
end
section
variable {X:Cx}
def DM:V->List V->Hp->VK->Prop:=fun x vs H Q=>∃ l xs y,x=.ref l/\vs=[y]/\H l=some (.lst xs)/\xs.length < sizeLine/\Q .non (upd H l (.lst (xs++[y])))
theorem Ac:Lc X "list.append" DM:=by
 intro pins s σ H x vs v us Q I rx rv h
 obtain ⟨l,xs,y,rfl,rfl,hH,hz,q⟩:=h
 cases rx
 obtain ⟨u,rfl,ru⟩:=rv.one
 obtain ⟨z,its,n,r,hl,e⟩:=I.lstM hH
 refine call_meets F.slot_list_append ⟨_,e,rfl⟩ F.entry_list_append (F.args_list_append_2 _ _) (PySem.list_append l its.toArray n u (by rw [List.size_toArray];omega)) ⟨e,?_⟩
 refine ⟨.non,_,I.lset (its':=its++[u]) hH e (by simp) (r.append (.cons ru .nil)) ?_,rfl,q⟩
 rw [List.length_append,List.length_singleton]
 omega
def Px:V->List V->Hp->VK->Prop:=fun x vs H Q=>∃ l xs y,x=.ref l/\vs=[]/\H l=some (.lst xs)/\xs[xs.length - 1]?=some y/\Q y (upd H l (.lst xs.dropLast))
theorem NH:Lc X "list.pop" Px:=by
 intro pins s σ H x vs v us Q I rx rv h
 obtain ⟨l,xs,y,rfl,rfl,hH,hy,q⟩:=h
 cases rx
 have hus:=rv.zero
 subst hus
 obtain ⟨z,its,n,r,hl,e⟩:=I.lstM hH
 obtain ⟨u,hu,ru⟩:=r.get hy
 have hy':its.toArray[its.toArray.size - 1]?=some u:=by
  show its.toArray[its.length - 1]?=some u
  rw [<- Array.getElem?_toList,<- hl]
  exact hu
 refine call_meets F.slot_list_pop ⟨_,e,rfl⟩ F.entry_list_pop (F.args_list_pop_1 _) (MeetsSeq.list_pop_last l its.toArray n u hy' (by rw [List.size_toArray];omega)) ⟨e,?_⟩
 refine ⟨y,_,I.lset (its':=its.dropLast) hH e ?_ r.dropLast ?_,ru,q⟩
 ·show its.toArray.eraseIdxIfInBounds (its.toArray.size - 1)=its.dropLast.toArray
  rw [List.size_toArray,List.eraseIdxIfInBounds_toArray,Eu]
 ·rw [List.length_dropLast]
  omega
def GB:V->List V->Hp->VK->Prop:=fun x vs H Q=>∃ l xs i k y,x=.ref l/\vs=[.int i]/\H l=some (.lst xs)/\-(2 ^ 63)<=i/\i < 2 ^ 63/\seqIndex? i xs.length=some k/\xs[k]?=some y/\Q y (upd H l (.lst (xs.eraseIdx k)))
theorem Kl:Lc X "list.pop" GB:=by
 intro pins s σ H x vs v us Q I rx rv h
 obtain ⟨l,xs,i,k,y,rfl,rfl,hH,h1,h2,hk,hy,q⟩:=h
 cases rx
 obtain ⟨u,rfl,ru⟩:=rv.one
 obtain ⟨t,rfl⟩:=ru
 obtain ⟨z,its,n,r,hl,e⟩:=I.lstM hH
 obtain ⟨w,hw,rw'⟩:=r.get hy
 refine call_meets F.slot_list_pop ⟨_,e,rfl⟩ F.entry_list_pop (F.args_list_pop_2 _ _)
  (MeetsSeq.list_pop_at l its.toArray n i t k w (fitsIndex_both h1 h2) (by rw [List.size_toArray,<- hl];exact hk) (by rw [<- Array.getElem?_toList];exact hw) (by rw [List.size_toArray];omega)) ⟨e,?_⟩
 refine ⟨y,_,I.lset (its':=its.eraseIdx k) hH e ?_ (r.eraseIdx k) ?_,rw',q⟩
 ·show its.toArray.eraseIdxIfInBounds k=(its.eraseIdx k).toArray
  rw [List.eraseIdxIfInBounds_toArray]
 ·have:=zP xs k
  omega
def NY:R2:=fun x y H Q=>∃ l k xs,x=.ref l/\y=.int k/\H l=some (.lst xs)/\-(2 ^ 63)<=k/\k < 2 ^ 63/\xs.length * k.toNat<=sizeLine /\
 ∀ p,H p=none->Q (.ref p) (upd H p (.lst (List.replicate k.toNat xs).flatten))
theorem len_rep {α:Type} (xs:List α) (k:Nat):(List.replicate k xs).flatten.length=k * xs.length:=by
 induction k with
 | zero=>simp
 | succ k ih=>rw [List.replicate_succ,List.flatten_cons,List.length_append,ih,Nat.succ_mul,Nat.add_comm]
theorem N2:dG X (binaryOp .Mult) NY:=by
 intro pins s σ H x y v u Q I rx ry h
 obtain ⟨l,k,xs,rfl,rfl,hH,h1,h2,hz,q⟩:=h
 cases rx
 obtain ⟨t,rfl⟩:=ry
 obtain ⟨z,its,n,r,hl,e⟩:=I.lstM hH
 have hlen:its.toArray.size * k.toNat<=sizeLine:=by rw [List.size_toArray,<- hl];exact hz
 have hcap:¬ its.toArray.size * k.toNat > (2 ^ 63 - 1) / 8:=by
  have:(sizeLine:Nat)<=(2 ^ 63 - 1) / 8:=by decide
  omega
 have hfit:¬ (!Builtin.List.listFitsIndex k)=true:=by
  rw [fitsIndex_both h1 h2]
  exact Bool.false_ne_true
 have hlong:¬ Builtin.List.listTooLong (its.toArray.size * k.toNat)=true:=by
  rw [Cb hlen]
  exact Bool.false_ne_true
 have hnew:List.foldl (fun x1 x2=>x1++x2) #[] (List.replicate (if its.toArray.isEmpty=true then 0 else k.toNat) its.toArray)=(List.replicate k.toNat its).flatten.toArray:=by
  have f0:∀ m:Nat,List.foldl (fun x1 x2=>x1++x2) #[] (List.replicate m its.toArray)=(List.replicate m its).flatten.toArray:=fun m=>by
   have:=foldl_rep its m []
   rw [List.nil_append] at this
   exact this
  rw [f0]
  cases its with
  | nil=>simp
  | cons a r'=>rw [if_neg (by simp)]
 refine wpAny_binaryOp_repeat_ref (T:="list") (U:="int") (by decide) ⟨_,e,rfl⟩ (fun s'=>typeIs_int s' k t) noFill_list_mul F.fills_int_mul F.slot_int_rmul repeat_list F.slot_int_index.lookup
  (call_meets F.slot_int_rmul (typeIs_int s k t) F.entry_int_rmul (F.args_int_rmul_2 _ _) (int___rmul___int_list k t l its.toArray n)
   ⟨e,rfl,⟨_,e,rfl⟩,call_meets F.slot_list_mul ⟨_,e,rfl⟩ F.entry_list_mul (F.args_list_mul_2 _ _) (AutoListH.list___mul___list_int_3 l its.toArray n k t hfit hcap hlong) ⟨e,?_⟩⟩)
 rw [hnew]
 exact ⟨.ref _,_,I.lnew (t':=s.toks) (r.rep k.toNat) (by rw [len_rep,Nat.mul_comm];exact hz),rfl,q _ I.fresh⟩
end
section
variable {prog:Program} {w:World} {A:Around} {E:Value->Shared->Prop} {s:Shared}
end
section
variable {X:Cx}
end
end L2
namespace Att
open PySem PySem.W PySem.Calls PyProof.Rows
theorem wN {P:Params} {h:Heap}:∀ (ns:List Int) (vs:List Value),WellAll P h vs (ns.map WData.int)->IntsAre vs ns:=by
 intro ns
 induction ns with
 | nil =>
  intro vs w
  rw [List.map_nil] at w
  cases w
  exact .nil
 | cons n ns ih =>
  intro vs w
  rw [List.map_cons] at w
  cases w with
  | cons a b =>
   cases a
   exact .cons _ _ (ih _ b)
theorem HC {l:OpenLaw} {n:Nat} (hn:l.most=some n) {P:Params} {h:Heap} {args:List WData} {vals:List Value}
  (hpre:l.row.toRowW.claim.pre args=true) (hwl:WellAll P h vals args) :
  ∃ a vs ns,vals=[Value.ref a]/\args=[WData.list (ns.map WData.int)]/\h.get? a=some { cls:=.type "list",data:=.seq vs.toArray }/\IntsAre vs ns/\ns.length<=n:=by
 have hsh:WShape.hasAll [] args [.list .int]=true:=(pre_splitW hpre).1
 have hc:l.pre.holds [] { args:=args }=true:=(pre_splitW hpre).2
 obtain ⟨d,r,rfl,h1,h2⟩:=hasAllW_cons hsh
 obtain rfl:=hasAllW_nil h2
 obtain ⟨xs,rfl,h3⟩:=hasW_list h1
 obtain ⟨ns,rfl⟩:=items_int h3
 have hlen:ns.length<=n:=by
  unfold OpenLaw.pre at hc
  have h4:(WTm.not (.lt (.lit (.int (n:Int))) (.len (.arg 0)))).holds [] { args:=[.list (ns.map .int)] }=true:=by
   have h4:=(holds_andW hc).1
   rw [hn] at h4
   exact h4
  have h5:=condW_of h4 (w_not (w_lt w_lit (w_len_list (w_arg rfl))))
  rw [List.length_map] at h5
  refine Nat.le_of_not_lt fun q=>?_
  have q':(n:Int) < ((ns.length:Nat):Int):=by omega
  first
   | (rw [decide_eq_true q'] at h5;exact absurd h5 (by decide))
   | (simp at h5;omega)
 cases hwl with
 | cons w1 w2 =>
  cases w2
  cases w1 with
  | list ho hall=>exact ⟨_,_,ns,rfl,rfl,ho,wN ns _ hall,hlen⟩
theorem Hw (l:OpenLaw) (args:List WData):l.row.toRowW.claim.post args (.bool true) args=true :=
 postW_of (r:=l.row.toRowW) (X:=(true == true))
  (show WShape.has [] (.bool true) .bool=true by first | rfl | decide | simp [WShape.has,WShape.arms,WShape.armsAll])
  (show (WTm.eq .res (.lit (.bool true))).value [] { args:=args,res:=some (.bool true),after:=args }=some (.bool (true == true)) from w_eq_bool (w_res rfl) w_lit) rfl
theorem attach_call {l:OpenLaw} {n:Nat} {q:Program} {loose:List Str} {XP:(Str->Option Value)->Heap->Prop} {YP:World->Heap->Prop} {d:DefRec}
  (hn:l.most=some n) (hdf:d.params.defaults=[])
  (call:∀ (w:World) (s₀ s₁:Shared) (mg mb:Str->Option Value) (fa:Addr) (o:Obj) (pm cd doc:Value) (a:Addr) (vs:List Value) (ns:List Int),
   Ground q loose [] XP w s₀ mg mb s₁.heap->YP w s₁.heap ->
   s₁.heap.get? fa=some o->o.data=.func (docDef d.name d.params d.body d.scope pm cd doc)->s₁.heap.CodeRec cd d.name->mg d.name=some (.ref fa) ->
   s₁.heap.get? a=some { cls:=.type "list",data:=.seq vs.toArray }->IntsAre vs ns->ns.length<=n->s₁.gens=#[] ->
   codeAny (model l.prog w) callerA (.call (.ref fa) ⟨[.ref a],[]⟩) (fun r s'=>r=.ok (.ret (.bool true))/\OldK s₁.heap s'.heap/\s'.os=s₁.os/\AllBare s'.gens) s₁) :
  WalkO q loose XP YP l.row.toRowW d [] (fun f vs=>PySem.call f vs):=by
 intro w s₀ s₁ mg mb G Y fa o pm cd doc dV kV ho hd hcd hD hmg hg args vals as hpre hlay hrd hwl hlo
 obtain rfl:dV=.none:=Dflts.none hD hdf
 obtain rfl:kV=.none:=Dflts.noKw hD
 obtain ⟨a,vs,ns,rfl,rfl,hobj,hints,hlen⟩:=HC hn hpre hwl
 refine enter_call (codeAny_mono (call w s₀ s₁ mg mb fa o pm cd doc a vs ns G Y ho (fd_plain hd) hcd hmg hobj hints hlen hg) fun r s' hq=>?_)
 obtain ⟨rfl,h2,h3,h4⟩:=hq
 exact ⟨.inl ⟨.bool true,.bool true,[],rfl,fun _=>rfl,.bool true,Hw l _,fun _=>⟨List.Pairwise.nil,fun _ hm=>(nomatch hm)⟩⟩,h2,h3,h4⟩
section
variable {prog:Program} {w:World} {A:Around} {E:Value->Shared->Prop} {s:Shared} {K:Frag}
end
end Att
namespace L2
open PySem PySem.Spec PyProof.Rows
theorem zL:∀ {vs:List Value} {ns:List Int},IntsAre vs ns->Vals (ns.map V.int) vs
 | _,_,.nil=>.nil
 | _,_,.cons n t h=>.cons ⟨t,rfl⟩ (zL h)
end L2
namespace L2
open PySem PySem.Spec PyProof.Rows
def aW (s:Stmt):Arguments:=match s with
 | .FunctionDef _ a _ _ _ _ _ _ _ _=>a
 | _=>{ posonlyargs:=[],args:=[],vararg:=none,kwonlyargs:=[],kw_defaults:=[],kwarg:=none,defaults:=[] }
def aU (s:Stmt):List Stmt:=match s with
 | .FunctionDef _ _ b _ _ _ _ _ _ _=>b
 | _=>[]
def aG (s:Stmt):Scope:=match s with
 | .FunctionDef _ _ _ _ _ _ sc _ _ _=>sc
 | _=>{ kind:=.function,names:=[],isGenerator:=false,isCoroutine:=false }
abbrev m5:vV:=fun _ _ _ _ _ _=>False
abbrev E0:XK:=fun _ _ _=>False
theorem Er {X:Cx}:Passes m5 X E0:=fun _ _ _ _ _ _ _ h=>h.elim
structure cL (K:PySem.W.Frag) (x qual:Str) (st:Stmt) (f:Addr) (fd:FuncData):Prop where
 ex:∃ (oc:Value) (od:Option Addr) (kV doc pm:Value) (an:Option Addr) (cdv ct:Value) (osl:Array (Option Value)),
  fd=PySem.W.fnOf x qual (aW st) (aU st) (aG st) .none kV doc pm an cdv ct/\K.lookup f=some ⟨oc,od,.func fd,osl⟩/\PySem.W.codeIn K cdv qual=true
 kp:PySem.W.keepIn K (.ref f)=true
section
variable {P:Program} {w:World} {K:PySem.W.Frag} {mg:Str->Option Value} {base:Heap}
theorem cL.ok {x qual:Str} {st:Stmt} {f:Addr} {fd:FuncData} {N ps:List Str} {k:Nat} {sp:Sp} (F:cL K x qual st f fd) (S:aX N ps (aG st)) (len:∀ vs H Q E,sp vs H Q E->vs.length=ps.length)
  (hbody:∀ (cdv:Value) (A:Around) (outer:List Env) (s:Shared) (H:Hp) (vs:List V) (Q:VK) (E:XK),fT k (A.deeper (envOfC qual (aG st) s.heap.objs.size f cdv))->sp vs H Q E ->
   ∃ t,pF (yS m5 P w K mg base N qual (aG st) f cdv A outer s H E).nox (aU st) t/\t { nx:=fun _ H'=>Q .non H',rt:=Q } (start N vs) H):iZ P w K mg base m5 (k + 1) f fd ps sp:=by
 obtain ⟨oc,od,kV,doc,pm,an,cdv,ct,osl,rfl,lk,hcd⟩:=F.ex
 refine Lh lk hcd S len fun A outer s H vs Q E hr hsp=>?_
 obtain ⟨t,h,q⟩:=hbody cdv A outer s H vs Q E hr hsp
 exact ⟨t,h.nox,q⟩
theorem cL.binds {x qual:Str} {st:Stmt} {f:Addr} {fd:FuncData} {ps:List Str} (F:cL K x qual st f fd)
  (h:∀ (kV doc pm:Value) (an:Option Addr) (cdv ct:Value) (us:List Value),us.length=ps.length->bindArgs (PySem.W.fnOf x qual (aW st) (aU st) (aG st) .none kV doc pm an cdv ct) ⟨us,[]⟩=pure (ps.zip us)):Binds K fd ps []:=by
 obtain ⟨oc,od,kV,doc,pm,an,cdv,ct,osl,rfl,lk,hcd⟩:=F.ex
 exact .all (h kV doc pm an cdv ct)
theorem bK {x qual:Str} {st:Stmt} {f:Addr} {oc:Value} {od an:Option Addr} {osl:Array (Option Value)} {kV doc pm cdv ct:Value} (l:K.lookup f=some ⟨oc,od,.func (PySem.W.fnOf x qual (aW st) (aU st) (aG st) .none kV doc pm an cdv ct),osl⟩)
  (c:PySem.W.codeIn K cdv qual=true) (k:PySem.W.keepIn K (.ref f)=true):cL K x qual st f (PySem.W.fnOf x qual (aW st) (aU st) (aG st) .none kV doc pm an cdv ct):=⟨⟨oc,od,kV,doc,pm,an,cdv,ct,osl,rfl,l,c⟩,k⟩
end
theorem Ei {A:Around} {k:Nat} (hr:fT k A):A.units + 1 < cLine:=Nat.lt_of_le_of_lt (Nat.add_le_add_left (by decide:1<=64) _) hr.units
section
variable {X:Cx}
end
theorem mI {c A B:Prop} [Decidable c] (h1:c->A) (h2:¬ c->B):if c then A else B:=by
 by_cases h:c
 ·rw [if_pos h]
  exact h1 h
 ·rw [if_neg h]
  exact h2 h
end L2
namespace U2
open PySem L2
inductive U where
 | non | bl (b:Bool) | int (i:Int) | str (x:Str) | tup (us:List U) | lst (us:List U) | ref (a:Addr) | ty (n:String) | dic (ks:List (List Key)) (tk:Bool) (us:List U)
inductive MO where
 | lst (us:List U) | dK (kvs:List (Key × U)) | dT (kvs:List (List Key × U)) | dN (kvs:List ((List Key × Key) × U)) | tbl (q:Str) | cap (ps:Array Value) (vs:List V) (us:List U)
abbrev aF:=Addr->Option MO
def mup (M:aF) (a:Addr) (o:MO):aF:=fun b=>if b=a then some o else M b
theorem aS {M:aF} {a:Addr} {o:MO}:mup M a o a=some o:=by unfold mup;rw [if_pos rfl]
theorem aT {M:aF} {a b:Addr} {o:MO} (h:b≠a):mup M a o b=M b:=by unfold mup;rw [if_neg h]
theorem gM {M:aF} {a:Addr} {o u:MO}:mup (mup M a o) a u=mup M a u:=by
 funext b;unfold mup;split <;> rfl
def KT (K:PySem.W.Frag) (a:Addr) (xs:List V):Prop :=
 ∃ (o:Obj) (its:Array Value) (n:Nat),K.lookup a=some o/\o.cls=.type "tuple"/\o.dict=none/\o.data=.seq its n/\its.size<=sizeLine/\Vals xs its.toList
def KL (K:PySem.W.Frag) (a:Addr) (xs:List V):Prop :=
 ∃ (o:Obj) (its:Array Value) (n:Nat),K.lookup a=some o/\o.cls=.type "list"/\o.dict=none/\o.data=.seq its n/\its.size<=sizeLine/\Vals xs its.toList
def w5 (H:Hp) (a:Addr) (ks:List (List Key)) (tk:Bool) (vs:List V):Prop:=match tk with
 | true=>∃ ws,Rd H a (.dT ws)/\ks=ws.map (·.1)/\vs=ws.map (·.2)
 | false=>∃ ws,Rd H a (.dK ws)/\ks=ws.map (fun p=>[p.1])/\vs=ws.map (·.2)
mutual
def aJ (K:PySem.W.Frag) (H:Hp) (M:aF):U->V->Prop
 | .non,v=>v=.non
 | .bl b,v=>v=.bl b
 | .int i,v=>v=.int i
 | .str x,v=>v=.str x
 | .ty n,v=>v=.ty n
 | .ref a,v=>v=.ref a
 | .tup us,v=>∃ a vs,v=.ref a/\(M a=none/\H a=some (.tup vs))/\aI K H M us vs
 | .dic ks tk us,v=>∃ a vs,v=.ref a/\M a=none/\w5 H a ks tk vs/\aI K H M us vs
 | .lst us,v=>∃ a vs,v=.ref a/\((M a=none/\Rd H a (.lst vs))\/KL K a vs)/\aI K H M us vs
def aI (K:PySem.W.Frag) (H:Hp) (M:aF):List U->List V->Prop
 | [],vs=>vs=[]
 | u :: us,vs=>∃ v vs',vs=v :: vs'/\aJ K H M u v/\aI K H M us vs'
end
def sQ:HO->Bool
 | .dK _=>true
 | .dT _=>true
 | _=>false
def aR (H:Hp) (M:aF) (H1:Hp) (M1:aF):Prop:=∀ b o,H b=some o->M b=none->(H1 b=some o\/(sQ o=true/\∃ ob,H1 b=some (.frz ob o)))/\M1 b=none
theorem aR.by' {H H1:Hp} {M M1:aF} (h:∀ b o,H b=some o->M b=none->H1 b=some o/\M1 b=none):aR H M H1 M1:=fun b o e m=>⟨.inl (h b o e m).1,(h b o e m).2⟩
theorem aR.to {H H1:Hp} {M M1:aF} (st:aR H M H1 M1) {b:Addr} {o:HO} (e:H b=some o) (m:M b=none) (n:sQ o=false:=by rfl):H1 b=some o/\M1 b=none:=by
 obtain ⟨h | ⟨h,_⟩,m1⟩:=st b o e m
 ·exact ⟨h,m1⟩
 ·rw [n] at h;cases h
theorem aR.refl (H:Hp) (M:aF):aR H M H M:=.by' fun _ _ h m=>⟨h,m⟩
theorem aR.trans {H H1 H2:Hp} {M M1 M2:aF} (a:aR H M H1 M1) (b:aR H1 M1 H2 M2):aR H M H2 M2:=fun c o h m=>by
 obtain ⟨h1 | ⟨d,ob,h1⟩,m1⟩:=a c o h m
 ·exact b c o h1 m1
 ·obtain ⟨h2,m2⟩:=b.to h1 m1
  exact ⟨.inr ⟨d,ob,h2⟩,m2⟩
theorem Rd.stp {H H1:Hp} {M M1:aF} {a:Addr} {u:HO} (st:aR H M H1 M1) (m:M a=none) (h:Rd H a u):M1 a=none/\Rd H1 a u:=by
 rcases h with h | ⟨o,h⟩
 ·obtain ⟨x | ⟨_,ob,x⟩,y⟩:=st a _ h m
  ·exact ⟨y,.inl x⟩
  ·exact ⟨y,.inr ⟨ob,x⟩⟩
 ·obtain ⟨x,y⟩:=st.to h m;exact ⟨y,.inr ⟨o,x⟩⟩
theorem w5.stp {H H1:Hp} {M M1:aF} {a:Addr} {ks:List (List Key)} {tk:Bool} {vs:List V} (st:aR H M H1 M1) (m:M a=none) (h:w5 H a ks tk vs):M1 a=none/\w5 H1 a ks tk vs:=by
 cases tk with
 | true=>obtain ⟨ws,e,r⟩:=h;exact ⟨(Rd.stp st m e).1,ws,(Rd.stp st m e).2,r⟩
 | false=>obtain ⟨ws,e,r⟩:=h;exact ⟨(Rd.stp st m e).1,ws,(Rd.stp st m e).2,r⟩
mutual
theorem aJ.stp {K:PySem.W.Frag} {H H1:Hp} {M M1:aF} (st:aR H M H1 M1):∀ {u:U} {v:V},aJ K H M u v->aJ K H1 M1 u v
 | .non,_,h=>by simpa only [aJ] using h
 | .bl _,_,h=>by simpa only [aJ] using h
 | .int _,_,h=>by simpa only [aJ] using h
 | .str _,_,h=>by simpa only [aJ] using h
 | .ty _,_,h=>by simpa only [aJ] using h
 | .ref _,_,h=>by simpa only [aJ] using h
 | .tup us,_,h=>by
  simp only [aJ] at h ⊢
  obtain ⟨a,vs,e,h1,h2⟩:=h
  refine ⟨a,vs,e,?_,aI.stp st h2⟩
  obtain ⟨m,r⟩:=h1
  exact ⟨(st.to r m).2,(st.to r m).1⟩
 | .dic ks tk us,_,h=>by
  simp only [aJ] at h ⊢
  obtain ⟨a,vs,e,m,h1,h2⟩:=h
  have q:=w5.stp st m h1
  exact ⟨a,vs,e,q.1,q.2,aI.stp st h2⟩
 | .lst us,_,h=>by
  simp only [aJ] at h ⊢
  obtain ⟨a,vs,e,h1,h2⟩:=h
  refine ⟨a,vs,e,?_,aI.stp st h2⟩
  rcases h1 with ⟨m,r⟩ | k
  ·exact .inl (Rd.stp st m r)
  ·exact .inr k
theorem aI.stp {K:PySem.W.Frag} {H H1:Hp} {M M1:aF} (st:aR H M H1 M1):∀ {us:List U} {vs:List V},aI K H M us vs->aI K H1 M1 us vs
 | [],_,h=>by simpa only [aI] using h
 | u :: us,_,h=>by
  simp only [aI] at h ⊢
  obtain ⟨v,vs',e,h1,h2⟩:=h
  exact ⟨v,vs',e,aJ.stp st h1,aI.stp st h2⟩
end
theorem aR.less {H:Hp} {M M1:aF} (h:∀ b,M b=none->M1 b=none):aR H M H M1:=.by' fun b o e m=>⟨e,h b m⟩
def cP {κ:Type} (K:PySem.W.Frag) (H:Hp) (M:aF):List (κ × U)->List (κ × V)->Prop:=Paired fun p q=>p.1=q.1/\aJ K H M p.2 q.2
theorem cP.stp {κ:Type} {K:PySem.W.Frag} {H H1:Hp} {M M1:aF} (st:aR H M H1 M1):∀ {us:List (κ × U)} {vs:List (κ × V)},cP K H M us vs->cP K H1 M1 us vs
 | _,_,.nil=>.nil
 | _,_,.cons h t=>.cons ⟨h.1,h.2.stp st⟩ (cP.stp st t)
def x8 (K:PySem.W.Frag) (H:Hp) (M:aF) (a:Addr):MO->Prop
 | .lst us=>∃ vs,H a=some (.lst vs)/\aI K H M us vs
 | .dK kvs=>∃ ws,H a=some (.dK ws)/\cP K H M kvs ws
 | .dT kvs=>∃ ws,H a=some (.dT ws)/\cP K H M kvs ws
 | .dN kvs=>∃ ws,H a=some (.dN ws)/\cP K H M kvs ws
 | .cap ps vs us=>H a=some (.tbl ps)/\aI K H M us vs
 | .tbl q=>(∀ b,M b=some (.tbl q)->b=a)/\∃ ps,H a=some (.tbl ps)/\TriplesOk ps.toList/\∀ pos c,codeAmong pos ps.toList=some c->∃ c' oc vs t,c=.ref c'/\H c'=some (.frz oc (.own 0))/\M c'=none/\oc.data=.fields vs/\vs[1]?=some (.str q t)
def RelM (K:PySem.W.Frag) (H:Hp) (M:aF):Prop:=∀ a mo,M a=some mo->x8 K H M a mo
theorem x8.stp {K:PySem.W.Frag} {H H1:Hp} {M M1:aF} {a:Addr} {mo:MO} (hu:∀ b q,M1 b=some (.tbl q)->M b=some (.tbl q)) (st:aR H M H1 M1) (e:H1 a=H a) (h:x8 K H M a mo):x8 K H1 M1 a mo:=by
 cases mo with
 | lst us=>obtain ⟨vs,x,y⟩:=h;exact ⟨vs,e.trans x,y.stp st⟩
 | dK us=>obtain ⟨vs,x,y⟩:=h;exact ⟨vs,e.trans x,y.stp st⟩
 | dT us=>obtain ⟨vs,x,y⟩:=h;exact ⟨vs,e.trans x,y.stp st⟩
 | dN us=>obtain ⟨vs,x,y⟩:=h;exact ⟨vs,e.trans x,y.stp st⟩
 | cap ps vs us=>exact ⟨e.trans h.1,h.2.stp st⟩
 | tbl q =>
  obtain ⟨un,ps,x,y,z⟩:=h
  refine ⟨fun b hb=>un b (hu b q hb),ps,e.trans x,y,fun pos c hc=>?_⟩
  obtain ⟨c',oc,vs,t,h1,h2,h3,h4⟩:=z pos c hc
  exact ⟨c',oc,vs,t,h1,(st.to h2 h3).1,(st.to h2 h3).2,h4⟩
theorem RelM.ex {K:PySem.W.Frag} {H:Hp} {M:aF} (r:RelM K H M) {a:Addr} {mo:MO} (h:M a=some mo):∃ o,H a=some o:=by
 have:=r a mo h
 cases mo with
 | lst us=>obtain ⟨vs,x,y⟩:=this;exact ⟨_,x⟩
 | dK us=>obtain ⟨vs,x,y⟩:=this;exact ⟨_,x⟩
 | dT us=>obtain ⟨vs,x,y⟩:=this;exact ⟨_,x⟩
 | dN us=>obtain ⟨vs,x,y⟩:=this;exact ⟨_,x⟩
 | cap ps vs us=>exact ⟨_,this.1⟩
 | tbl q=>obtain ⟨_,ps,x,_⟩:=this;exact ⟨_,x⟩
theorem RelM.no {K:PySem.W.Frag} {H:Hp} {M:aF} (r:RelM K H M) {a:Addr} (h:H a=none):M a=none:=by
 cases e:M a with
 | none=>rfl
 | some mo=>obtain ⟨o,q⟩:=r.ex e;rw [h] at q;cases q
theorem aR.laid {K:PySem.W.Frag} {H:Hp} {M:aF} {p:Addr} {o:HO} (r:RelM K H M) (h:H p=none):aR H M (upd H p o) M:=.by' fun b u e m=>⟨by rw [bL (cN e h)];exact e,m⟩
theorem RelM.laid {K:PySem.W.Frag} {H:Hp} {M:aF} {p:Addr} {o:HO} (r:RelM K H M) (h:H p=none):RelM K (upd H p o) M:=fun a mo e=>by
 obtain ⟨u,q⟩:=r.ex e
 exact (r a mo e).stp (fun _ _ z=>z) (aR.laid r h) (bL (cN q h))
theorem aR.own {K:PySem.W.Frag} {H:Hp} {M:aF} {p:Addr} {o:HO} {mo:MO} (r:RelM K H M) (h:H p=none):aR H M (upd H p o) (mup M p mo):=.by' fun b u e m=>by
 have n:=cN e h
 exact ⟨by rw [bL n];exact e,by rw [aT n];exact m⟩
theorem RelM.put {K:PySem.W.Frag} {H:Hp} {M:aF} {p:Addr} {o:HO} {mo:MO} (r:RelM K H M) (st:aR H M (upd H p o) (mup M p mo)) (new:x8 K (upd H p o) (mup M p mo) p mo) (hm:∀ q,mo≠.tbl q:=by intro q z;cases z):RelM K (upd H p o) (mup M p mo):=fun a m e=>by
 by_cases ha:a=p
 ·subst ha;rw [aS] at e;cases e;exact new
 ·rw [aT ha] at e
  refine (r a m e).stp (fun b q z=>?_) st (bL ha)
  by_cases hb:b=p
  ·subst hb;rw [aS] at z;exact absurd (Option.some.inj z) (hm q)
  ·rw [aT hb] at z;exact z
theorem aR.write {H:Hp} {M:aF} {p:Addr} {o:HO} {mo m0:MO} (h:M p=some m0):aR H M (upd H p o) (mup M p mo):=.by' fun b u e m=>by
 have n:b≠p:=fun z=>by subst z;rw [h] at m;cases m
 exact ⟨by rw [bL n];exact e,by rw [aT n];exact m⟩
section
variable {K:PySem.W.Frag} {H:Hp} {M:aF}
theorem aI.nil:aI K H M [] []:=by simp only [aI]
theorem aI.cons {u:U} {v:V} {us:List U} {vs:List V} (h:aJ K H M u v) (t:aI K H M us vs):aI K H M (u :: us) (v :: vs):=by simp only [aI];exact ⟨v,vs,rfl,h,t⟩
theorem aI.length:∀ {us:List U} {vs:List V},aI K H M us vs->us.length=vs.length
 | [],_,h=>by simp only [aI] at h;subst h;rfl
 | u :: us,_,h=>by
  simp only [aI] at h
  obtain ⟨v,vs',rfl,_,t⟩:=h
  simp [aI.length t]
theorem aI.inv_cons {u:U} {us:List U} {vs:List V} (h:aI K H M (u :: us) vs):∃ v vs',vs=v :: vs'/\aJ K H M u v/\aI K H M us vs':=by simpa only [aI] using h
theorem aI.inv_nil {vs:List V} (h:aI K H M [] vs):vs=[]:=by simpa only [aI] using h
theorem aI.append:∀ {us ws:List U} {vs zs:List V},aI K H M us vs->aI K H M ws zs->aI K H M (us++ws) (vs++zs)
 | [],_,_,_,h,t=>by cases h.inv_nil;exact t
 | u :: us,_,_,_,h,t=>by
  obtain ⟨v,vs',rfl,a,b⟩:=h.inv_cons
  exact .cons a (aI.append b t)
theorem aI.get:∀ {us:List U} {vs:List V} {i:Nat} {u:U},aI K H M us vs->us[i]?=some u->∃ v,vs[i]?=some v/\aJ K H M u v
 | [],_,_,_,_,e=>by simp at e
 | u :: us,_,0,_,h,e=>by
  obtain ⟨v,vs',rfl,a,b⟩:=h.inv_cons
  simp at e;subst e;exact ⟨v,rfl,a⟩
 | u :: us,_,i + 1,_,h,e=>by
  obtain ⟨v,vs',rfl,a,b⟩:=h.inv_cons
  simp at e
  obtain ⟨w,x,y⟩:=aI.get b e
  exact ⟨w,by simpa using x,y⟩
theorem aI.drop:∀ {us:List U} {vs:List V} (n:Nat),aI K H M us vs->aI K H M (us.drop n) (vs.drop n)
 | _,_,0,h=>h
 | [],_,_ + 1,h=>by cases h.inv_nil;exact .nil
 | u :: us,_,n + 1,h=>by
  obtain ⟨v,vs',rfl,a,b⟩:=h.inv_cons
  exact aI.drop n b
theorem aI.take:∀ {us:List U} {vs:List V} (n:Nat),aI K H M us vs->aI K H M (us.take n) (vs.take n)
 | _,_,0,_=>by simp only [List.take_zero];exact .nil
 | [],_,_ + 1,h=>by cases h.inv_nil;exact .nil
 | u :: us,_,n + 1,h=>by
  obtain ⟨v,vs',rfl,a,b⟩:=h.inv_cons
  exact .cons a (aI.take n b)
theorem aI.reverse:∀ {us:List U} {vs:List V},aI K H M us vs->aI K H M us.reverse vs.reverse
 | [],_,h=>by cases h.inv_nil;exact .nil
 | u :: us,_,h=>by
  obtain ⟨v,vs',rfl,a,b⟩:=h.inv_cons
  rw [List.reverse_cons,List.reverse_cons]
  exact (aI.reverse b).append (.cons a .nil)
theorem aI.dropLast {us:List U} {vs:List V} (h:aI K H M us vs):aI K H M us.dropLast vs.dropLast:=by
 rw [List.dropLast_eq_take,List.dropLast_eq_take,h.length];exact h.take _
theorem aI.eraseIdx:∀ {us:List U} {vs:List V} (i:Nat),aI K H M us vs->aI K H M (us.eraseIdx i) (vs.eraseIdx i)
 | [],_,_,h=>by cases h.inv_nil;exact .nil
 | w :: us,_,0,h=>by
  obtain ⟨z,vs',rfl,a,b⟩:=h.inv_cons
  exact b
 | w :: us,_,i + 1,h=>by
  obtain ⟨z,vs',rfl,a,b⟩:=h.inv_cons
  exact .cons a (aI.eraseIdx i b)
end
abbrev SU:=List (Option U)
abbrev UK:=U->aF->Prop
abbrev UE:=SU->aF->UK->Prop
abbrev UT:=SU->aF->(Bool->aF->Prop)->Prop
abbrev UA:=SU->aF->(List U->aF->Prop)->Prop
structure o6 where
 nx:SU->aF->Prop
 rt:UK
 bk:SU->aF->Prop:=fun _ _=>False
 ct:SU->aF->Prop:=fun _ _=>False
abbrev US:=o6->SU->aF->Prop
def dU (K:PySem.W.Frag) (H:Hp) (M:aF) (σ:St) (τ:SU):Prop:=τ.length=σ.length/\∀ (i:Nat) u,τ[i]?=some (some u)->∃ v,σ[i]?=some (some v)/\aJ K H M u v
theorem dU.stp {K:PySem.W.Frag} {H H1:Hp} {M M1:aF} {σ:St} {τ:SU} (st:aR H M H1 M1) (r:dU K H M σ τ):dU K H1 M1 σ τ:=⟨r.1,fun i u e=>let ⟨v,a,b⟩:=r.2 i u e;⟨v,a,b.stp st⟩⟩
theorem dU.set {K:PySem.W.Frag} {H:Hp} {M:aF} {σ:St} {τ:SU} {i:Nat} {u:U} {v:V} (r:dU K H M σ τ) (h:aJ K H M u v):dU K H M (σ.set i (some v)) (τ.set i (some u)):=by
 refine ⟨by simp [r.1],fun j w e=>?_⟩
 rw [List.getElem?_set] at e ⊢
 split at e
 ·rename_i hij
  subst hij
  split at e
  ·rename_i hl
   cases e
   rw [if_pos rfl,if_pos (by rw [<- r.1];exact hl)]
   exact ⟨v,rfl,h⟩
  ·cases e
 ·rename_i hij
  rw [if_neg hij]
  exact r.2 j w e
def bX (K:PySem.W.Frag) (t:TE) (t':UE):Prop:=∀ (σ:St) (τ:SU) (H:Hp) (M:aF) (Q':UK),dU K H M σ τ->RelM K H M->t' τ M Q' ->
 ∀ Q:VK,(∀ u v M1 H1,aR H M H1 M1->RelM K H1 M1->aJ K H1 M1 u v->Q' u M1->Q v H1)->t σ H Q
def j3 (K:PySem.W.Frag) (t:TT) (t':UT):Prop:=∀ (σ:St) (τ:SU) (H:Hp) (M:aF) (Q':Bool->aF->Prop),dU K H M σ τ->RelM K H M->t' τ M Q' ->
 ∀ Q:Bool->Hp->Prop,(∀ b M1 H1,aR H M H1 M1->RelM K H1 M1->Q' b M1->Q b H1)->t σ H Q
def j5 (K:PySem.W.Frag) (t:TA) (t':UA):Prop:=∀ (σ:St) (τ:SU) (H:Hp) (M:aF) (Q':List U->aF->Prop),dU K H M σ τ->RelM K H M->t' τ M Q' ->
 ∀ Q:List V->Hp->Prop,(∀ us vs M1 H1,aR H M H1 M1->RelM K H1 M1->aI K H1 M1 us vs->Q' us M1->Q vs H1)->t σ H Q
structure El (K:PySem.W.Frag) (H:Hp) (M:aF) (D:Ends) (D':o6):Prop where
 nx:∀ σ τ H1 M1,aR H M H1 M1->RelM K H1 M1->dU K H1 M1 σ τ->D'.nx τ M1->D.nx σ H1
 rt:∀ u v H1 M1,aR H M H1 M1->RelM K H1 M1->aJ K H1 M1 u v->D'.rt u M1->D.rt v H1
 bk:∀ σ τ H1 M1,aR H M H1 M1->RelM K H1 M1->dU K H1 M1 σ τ->D'.bk τ M1->D.bk σ H1
 ct:∀ σ τ H1 M1,aR H M H1 M1->RelM K H1 M1->dU K H1 M1 σ τ->D'.ct τ M1->D.ct σ H1
theorem El.stp {K:PySem.W.Frag} {H H1:Hp} {M M1:aF} {D:Ends} {D':o6} (d:El K H M D D') (st:aR H M H1 M1):El K H1 M1 D D' :=
 ⟨fun σ τ H2 M2 s=>d.nx σ τ H2 M2 (st.trans s),fun u v H2 M2 s=>d.rt u v H2 M2 (st.trans s),fun σ τ H2 M2 s=>d.bk σ τ H2 M2 (st.trans s),fun σ τ H2 M2 s=>d.ct σ τ H2 M2 (st.trans s)⟩
def lE (K:PySem.W.Frag) (t:TS) (t':US):Prop:=∀ (σ:St) (τ:SU) (H:Hp) (M:aF) (D':o6),dU K H M σ τ->RelM K H M->t' D' τ M->∀ D:Ends,El K H M D D'->t D σ H
end U2
namespace U2
open PySem L2
abbrev eL:=U->U->aF->UK->Prop
def cW (K:PySem.W.Frag) (H:Hp) (M:aF) (Q':UK) (Q:VK):Prop:=∀ u v M1 H1,aR H M H1 M1->RelM K H1 M1->aJ K H1 M1 u v->Q' u M1->Q v H1
theorem cW.stp {K:PySem.W.Frag} {H H1:Hp} {M M1:aF} {Q':UK} {Q:VK} (c:cW K H M Q' Q) (st:aR H M H1 M1):cW K H1 M1 Q' Q:=fun u v M2 H2 s=>c u v M2 H2 (st.trans s)
theorem cW.here {K:PySem.W.Frag} {H:Hp} {M:aF} {Q':UK} {Q:VK} {u:U} {v:V} (c:cW K H M Q' Q) (rm:RelM K H M) (r:aJ K H M u v) (q:Q' u M):Q v H:=c u v M H (aR.refl H M) rm r q
def eP (K:PySem.W.Frag) (r:R2) (r':eL):Prop:=∀ (x y:V) (u w:U) (H:Hp) (M:aF) (Q':UK),RelM K H M->aJ K H M u x->aJ K H M w y->r' u w M Q'->∀ Q:VK,cW K H M Q' Q->r x y H Q
def Qj (K:PySem.W.Frag) (r:V->Hp->VK->Prop) (r':U->aF->UK->Prop):Prop:=∀ (x:V) (u:U) (H:Hp) (M:aF) (Q':UK),RelM K H M->aJ K H M u x->r' u M Q'->∀ Q:VK,cW K H M Q' Q->r x H Q
def sL (K:PySem.W.Frag) (r:List V->Hp->VK->Prop) (r':List U->aF->UK->Prop):Prop:=∀ (xs:List V) (us:List U) (H:Hp) (M:aF) (Q':UK),RelM K H M->aI K H M us xs->r' us M Q'->∀ Q:VK,cW K H M Q' Q->r xs H Q
def vA (K:PySem.W.Frag) (r:V->List V->Hp->VK->Prop) (r':U->List U->aF->UK->Prop):Prop:=∀ (x:V) (xs:List V) (u:U) (us:List U) (H:Hp) (M:aF) (Q':UK),RelM K H M->aJ K H M u x->aI K H M us xs->r' u us M Q'->∀ Q:VK,cW K H M Q' Q->r x xs H Q
section
variable {K:PySem.W.Frag} {H:Hp} {M:aF} {v:V}
theorem aJ.non (h:aJ K H M .non v):v=.non:=by simpa only [aJ] using h
theorem aJ.bl {b:Bool} (h:aJ K H M (.bl b) v):v=.bl b:=by simpa only [aJ] using h
theorem aJ.int {i:Int} (h:aJ K H M (.int i) v):v=.int i:=by simpa only [aJ] using h
theorem aJ.str {x:Str} (h:aJ K H M (.str x) v):v=.str x:=by simpa only [aJ] using h
theorem aJ.ty {n:String} (h:aJ K H M (.ty n) v):v=.ty n:=by simpa only [aJ] using h
theorem aJ.ref {a:Addr} (h:aJ K H M (.ref a) v):v=.ref a:=by simpa only [aJ] using h
theorem aJ.tup {us:List U} (h:aJ K H M (.tup us) v):∃ a vs,v=.ref a/\fW K H a vs/\aI K H M us vs:=by
 simp only [aJ] at h
 obtain ⟨a,vs,e,h1,h2⟩:=h
 refine ⟨a,vs,e,?_,h2⟩
 exact .inl (.inl h1.2)
theorem aJ.lst {us:List U} (h:aJ K H M (.lst us) v):∃ a vs,v=.ref a/\eO K H a vs/\aI K H M us vs:=by
 simp only [aJ] at h
 obtain ⟨a,vs,e,h1,h2⟩:=h
 refine ⟨a,vs,e,?_,h2⟩
 rcases h1 with ⟨_,r⟩ | k
 ·exact .inl r
 ·exact .inr k
theorem m6:aJ K H M .non .non:=by simp only [aJ]
theorem dD {b:Bool}:aJ K H M (.bl b) (.bl b):=by simp only [aJ]
theorem cT {i:Int}:aJ K H M (.int i) (.int i):=by simp only [aJ]
theorem lS {x:Str}:aJ K H M (.str x) (.str x):=by simp only [aJ]
theorem LY {n:String}:aJ K H M (.ty n) (.ty n):=by simp only [aJ]
theorem m8 {a:Addr}:aJ K H M (.ref a) (.ref a):=by simp only [aJ]
theorem v7 {a:Addr} {us:List U} {vs:List V} (m:M a=none) (h:H a=some (.tup vs)) (r:aI K H M us vs):aJ K H M (.tup us) (.ref a):=by
 simp only [aJ];exact ⟨a,vs,rfl,⟨m,h⟩,r⟩
theorem tB {a:Addr} {us:List U} {vs:List V} (m:M a=none) (h:H a=some (.lst vs)) (r:aI K H M us vs):aJ K H M (.lst us) (.ref a):=by
 simp only [aJ];exact ⟨a,vs,rfl,.inl ⟨m,.inl h⟩,r⟩
theorem cW.tup {Q':UK} {Q:VK} {us:List U} {vs:List V} {p:Addr} (c:cW K H M Q' Q) (rm:RelM K H M) (r:aI K H M us vs) (hp:H p=none) (q:Q' (.tup us) M):Q (.ref p) (upd H p (.tup vs)) :=
 c _ _ M _ (aR.laid rm hp) (rm.laid hp) (v7 (rm.no hp) cJ (r.stp (aR.laid rm hp))) q
def j2 (o:Bool) (us:List U) (M:aF) (Q:UK):Prop:=match o with
 | true=>∀ p,M p=none->Q (.ref p) (mup M p (.lst us))
 | false=>Q (.lst us) M
theorem cW.lst {o:Bool} {Q':UK} {Q:VK} {us:List U} {vs:List V} {p:Addr} (c:cW K H M Q' Q) (rm:RelM K H M) (r:aI K H M us vs) (hp:H p=none) (q:j2 o us M Q'):Q (.ref p) (upd H p (.lst vs)):=by
 cases o with
 | false=>exact c _ _ M _ (aR.laid rm hp) (rm.laid hp) (tB (rm.no hp) cJ (r.stp (aR.laid rm hp))) q
 | true =>
  have st:aR H M (upd H p (.lst vs)) (mup M p (.lst us)):=aR.own rm hp
  exact c (.ref p) _ _ _ st (rm.put st ⟨vs,cJ,r.stp st⟩) m8 (q p (rm.no hp))
end
def view (M:aF):U->U
 | .ref a=>match M a with
  | some (.lst us)=>.lst us
  | _=>.ref a
 | u=>u
theorem tH {M:aF} {a:Addr} {us:List U} (h:M a=some (.lst us)):view M (.ref a)=.lst us:=by simp only [view,h]
theorem fL {K:PySem.W.Frag} {H:Hp} {M:aF} {u:U} {v:V} {us:List U} (rm:RelM K H M) (r:aJ K H M u v) (h:view M u=.lst us):∃ a vs,v=.ref a/\eO K H a vs/\aI K H M us vs:=by
 cases u with
 | lst ws=>simp only [view] at h;cases h;exact r.lst
 | ref a =>
  simp only [view] at h
  split at h
  ·rename_i ws e
   cases h
   obtain ⟨vs,h1,h2⟩:=rm a _ e
   exact ⟨a,vs,r.ref,.inl (.inl h1),h2⟩
  ·cases h
 | _=>simp [view] at h
section
variable {K:PySem.W.Frag} {t ta tb tc:TE} {t' ta' tb' tc':UE}
def fK (i:Nat):UE:=fun τ M Q=>match τ[i]? with
 | some (some u)=>Q u M
 | _=>False
theorem DE (i:Nat):bX K (Kf i) (fK i):=fun σ τ H M Q' rs rm h Q c=>by
 unfold fK at h
 split at h
 ·rename_i u e
  obtain ⟨v,e2,r⟩:=rs.2 i u e
  exact ⟨v,e2,c u v M H (aR.refl _ _) rm r h⟩
 ·exact h.elim
def uC (u:U):UE:=fun _ M Q=>Q u M
theorem vB {u:U} {v:V} (h:∀ H M,aJ K H M u v):bX K (tC v) (uC u):=fun σ τ H M Q' rs rm q Q c=>c u v M H (aR.refl _ _) rm (h H M) q
theorem D0 {i:Int}:bX K (tC (.int i)) (uC (.int i)):=vB fun _ _=>cT
theorem Oi {i:Bool}:bX K (tC (.bl i)) (uC (.bl i)):=vB fun _ _=>dD
theorem Dw {i:Str}:bX K (tC (.str i)) (uC (.str i)):=vB fun _ _=>lS
theorem Mw:bX K (tC .non) (uC .non):=vB fun _ _=>m6
theorem Pg {n:String}:bX K (tC (.ty n)) (uC (.ty n)):=vB fun _ _=>LY
theorem Mz {a:Addr}:bX K (tC (.ref a)) (uC (.ref a)):=vB fun _ _=>m8
def fH (r:eL) (ta tb:UE):UE:=fun τ M Q=>ta τ M fun x M1=>tb τ M1 fun y M2=>r x y M2 Q
theorem rZ {r:R2} {r':eL} (hr:eP K r r') (ha:bX K ta ta') (hb:bX K tb tb'):bX K (Bx r ta tb) (fH r' ta' tb'):=fun σ τ H M Q' rs rm h Q c =>
 ha σ τ H M _ rs rm h _ fun u v M1 H1 s1 rm1 ru h1=>hb σ τ H1 M1 _ (rs.stp s1) rm1 h1 _ fun w x M2 H2 s2 rm2 rw h2=>hr v x u w H2 M2 Q' rm2 (ru.stp s2) rw h2 Q (cW.stp c (s1.trans s2))
def vQ (r:U->aF->UK->Prop) (ta:UE):UE:=fun τ M Q=>ta τ M fun x M1=>r x M1 Q
theorem Oz {r:V->Hp->VK->Prop} {r':U->aF->UK->Prop} (hr:Qj K r r') (ha:bX K ta ta'):bX K (Rb r ta) (vQ r' ta'):=fun σ τ H M Q' rs rm h Q c =>
 ha σ τ H M _ rs rm h _ fun u v M1 H1 s1 rm1 ru h1=>hr v u H1 M1 Q' rm1 ru h1 Q (cW.stp c s1)
def lR (t:UE):UT:=fun τ M Q=>t τ M fun u M1=>match u with
 | .bl b=>Q b M1
 | _=>False
theorem BK (h:bX K t t'):j3 K (Fc t) (lR t'):=fun σ τ H M Q' rs rm q Q c=>h σ τ H M _ rs rm q _ fun u v M1 H1 s1 rm1 ru h1=>by
 cases u with
 | bl b=>exact ⟨b,ru.bl,c b M1 H1 s1 rm1 h1⟩
 | _=>exact h1.elim
def rB (t:UE):UT:=fun τ M Q=>t τ M fun u M1=>match view M1 u with
 | .non=>Q false M1
 | .bl b=>Q b M1
 | .int i=>Q (i != 0) M1
 | .str x=>x.length<=sizeLine/\Q ((x.length:Int) != 0) M1
 | .tup us=>Q (!us.isEmpty) M1
 | .lst us=>Q (!us.isEmpty) M1
 | _=>False
theorem vJ {H:Hp} {M:aF} {us:List U} {vs:List V} (r:aI K H M us vs):us.isEmpty=vs.isEmpty:=by
 have:=r.length
 cases us <;> cases vs <;> simp_all
theorem LD (h:bX K t t'):j3 K (fun σ H Q=>t σ H fun x H'=>∃ k,Kc K x H' k/\Q k H') (rB t'):=fun σ τ H M Q' rs rm q Q c=>h σ τ H M _ rs rm q _ fun u v M1 H1 s1 rm1 ru h1=>by
 split at h1
 ·rename_i e
  cases u with
  | non=>exact ⟨false,by rw [ru.non];rfl,c _ M1 H1 s1 rm1 h1⟩
  | ref a=>simp only [view] at e;split at e <;> cases e
  | _=>simp [view] at e
 ·rename_i b e
  cases u with
  | bl b'=>simp only [view] at e;cases e;exact ⟨b,by rw [ru.bl];rfl,c _ M1 H1 s1 rm1 h1⟩
  | ref a=>simp only [view] at e;split at e <;> cases e
  | _=>simp [view] at e
 ·rename_i b e
  cases u with
  | int b'=>simp only [view] at e;cases e;exact ⟨b != 0,by rw [ru.int];rfl,c _ M1 H1 s1 rm1 h1⟩
  | ref a=>simp only [view] at e;split at e <;> cases e
  | _=>simp [view] at e
 ·rename_i b e
  cases u with
  | str b'=>simp only [view] at e;cases e;exact ⟨(b.length:Int) != 0,by rw [ru.str];exact ⟨h1.1,rfl⟩,c _ M1 H1 s1 rm1 h1.2⟩
  | ref a=>simp only [view] at e;split at e <;> cases e
  | _=>simp [view] at e
 ·rename_i us e
  cases u with
  | tup us' =>
   simp only [view] at e;cases e
   obtain ⟨a,vs,rfl,r1,r2⟩:=ru.tup
   exact ⟨!vs.isEmpty,.inr (.inl ⟨vs,r1,rfl⟩),c _ M1 H1 s1 rm1 (by rw [<- vJ r2];exact h1)⟩
  | ref a=>simp only [view] at e;split at e <;> cases e
  | _=>simp [view] at e
 ·rename_i us e
  obtain ⟨a,vs,rfl,r1,r2⟩:=fL rm1 ru e
  exact ⟨!vs.isEmpty,.inl ⟨vs,r1,rfl⟩,c _ M1 H1 s1 rm1 (by rw [<- vJ r2];exact h1)⟩
 ·exact h1.elim
def qY (t u:UT):UT:=fun τ M Q=>t τ M fun c M1=>if c=true then u τ M1 Q else Q false M1
def vP (t u:UT):UT:=fun τ M Q=>t τ M fun c M1=>if c=true then Q true M1 else u τ M1 Q
def qU (t:UT):UT:=fun τ M Q=>t τ M fun c M1=>Q (!c) M1
theorem LJ {t u:TT} {t' u':UT} (h:j3 K t t') (k:j3 K u u'):j3 K (NQ t u) (qY t' u'):=fun σ τ H M Q' rs rm q Q c=>h σ τ H M _ rs rm q _ fun b M1 H1 s1 rm1 h1=>by
 cases b with
 | true=>exact k σ τ H1 M1 Q' (rs.stp s1) rm1 h1 Q fun b M2 H2 s2=>c b M2 H2 (s1.trans s2)
 | false=>exact c _ M1 H1 s1 rm1 h1
theorem PK {t u:TT} {t' u':UT} (h:j3 K t t') (k:j3 K u u'):j3 K (Ra t u) (vP t' u'):=fun σ τ H M Q' rs rm q Q c=>h σ τ H M _ rs rm q _ fun b M1 H1 s1 rm1 h1=>by
 cases b with
 | false=>exact k σ τ H1 M1 Q' (rs.stp s1) rm1 h1 Q fun b M2 H2 s2=>c b M2 H2 (s1.trans s2)
 | true=>exact c _ M1 H1 s1 rm1 h1
theorem LB {t:TT} {t':UT} (h:j3 K t t'):j3 K (Pa t) (qU t'):=fun σ τ H M Q' rs rm q Q c=>h σ τ H M _ rs rm q _ fun b M1 H1 s1 rm1 h1=>c _ M1 H1 s1 rm1 h1
def gI (ta tb:UE):UE:=fun τ M Q=>ta τ M fun x M1=>match x with
 | .bl c=>if c=true then tb τ M1 Q else Q (.bl false) M1
 | _=>False
def rH (ta tb:UE):UE:=fun τ M Q=>ta τ M fun x M1=>match x with
 | .bl c=>if c=true then Q (.bl true) M1 else tb τ M1 Q
 | _=>False
def n4 (ta:UE):UE:=fun τ M Q=>ta τ M fun x M1=>match x with
 | .bl c=>Q (.bl (!c)) M1
 | _=>False
theorem JK (h:bX K ta ta') (k:bX K tb tb'):bX K (K7 ta tb) (gI ta' tb'):=fun σ τ H M Q' rs rm q Q c=>h σ τ H M _ rs rm q _ fun u v M1 H1 s1 rm1 ru h1=>by
 cases u with
 | bl b =>
  refine ⟨b,ru.bl,?_⟩
  cases b with
  | true=>exact k σ τ H1 M1 Q' (rs.stp s1) rm1 h1 Q (cW.stp c s1)
  | false=>exact c _ _ M1 H1 s1 rm1 dD h1
 | _=>exact h1.elim
theorem NA (h:bX K ta ta') (k:bX K tb tb'):bX K (Po ta tb) (rH ta' tb'):=fun σ τ H M Q' rs rm q Q c=>h σ τ H M _ rs rm q _ fun u v M1 H1 s1 rm1 ru h1=>by
 cases u with
 | bl b =>
  refine ⟨b,ru.bl,?_⟩
  cases b with
  | false=>exact k σ τ H1 M1 Q' (rs.stp s1) rm1 h1 Q (cW.stp c s1)
  | true=>exact c _ _ M1 H1 s1 rm1 dD h1
 | _=>exact h1.elim
theorem Jq (h:bX K ta ta'):bX K (Ln ta) (n4 ta'):=fun σ τ H M Q' rs rm q Q c=>h σ τ H M _ rs rm q _ fun u v M1 H1 s1 rm1 ru h1=>by
 cases u with
 | bl b=>exact ⟨b,ru.bl,c _ _ M1 H1 s1 rm1 dD h1⟩
 | _=>exact h1.elim
def vN (t:UT) (ta tb:UE):UE:=fun τ M Q=>t τ M fun c M1=>if c=true then ta τ M1 Q else tb τ M1 Q
theorem NP {t:TT} {t':UT} (h:j3 K t t') (k:bX K ta ta') (l:bX K tb tb'):bX K (Q3 t ta tb) (vN t' ta' tb'):=fun σ τ H M Q' rs rm q Q c=>h σ τ H M _ rs rm q _ fun b M1 H1 s1 rm1 h1=>by
 cases b with
 | true=>exact k σ τ H1 M1 Q' (rs.stp s1) rm1 h1 Q (cW.stp c s1)
 | false=>exact l σ τ H1 M1 Q' (rs.stp s1) rm1 h1 Q (cW.stp c s1)
def j6 (r r':eL) (ta tb tc:UE):UE:=fun τ M Q=>ta τ M fun x M1=>tb τ M1 fun y M2=>r x y M2 fun z M3=>match z with
 | .bl k=>if k=true then tc τ M3 fun w M4=>r' y w M4 Q else Q (.bl false) M3
 | _=>False
theorem zH {r r':R2} {s s':eL} (hr:eP K r s) (hr':eP K r' s') (ha:bX K ta ta') (hb:bX K tb tb') (hc:bX K tc tc'):bX K (Br r r' ta tb tc) (j6 s s' ta' tb' tc'):=fun σ τ H M Q' rs rm h Q c =>
 ha σ τ H M _ rs rm h _ fun u v M1 H1 s1 rm1 ru h1=>hb σ τ H1 M1 _ (rs.stp s1) rm1 h1 _ fun w x M2 H2 s2 rm2 rw h2 =>
  hr v x u w H2 M2 _ rm2 (ru.stp s2) rw h2 _ fun z zv M3 H3 s3 rm3 rz h3=>by
   cases z with
   | bl k =>
    refine ⟨k,rz.bl,?_⟩
    cases k with
    | true=>exact hc σ τ H3 M3 _ ((rs.stp s1).stp (s2.trans s3)) rm3 h3 _ fun w2 x2 M4 H4 s4 rm4 rw4 h4=>hr' x x2 w w2 H4 M4 Q' rm4 (rw.stp (s3.trans s4)) rw4 h4 Q (cW.stp c (((s1.trans s2).trans s3).trans s4))
    | false=>exact c _ _ M3 H3 ((s1.trans s2).trans s3) rm3 dD h3
   | _=>exact h3.elim
def kH:UA:=fun _ M Q=>Q [] M
def gO (ta:UE) (tr:UA):UA:=fun τ M Q=>ta τ M fun x M1=>tr τ M1 fun xs M2=>Q (x :: xs) M2
theorem MW:j5 K NG kH:=fun σ τ H M Q' rs rm q Q c=>c [] [] M H (aR.refl _ _) rm .nil q
theorem Jc {tr:TA} {tr':UA} (ha:bX K ta ta') (hr:j5 K tr tr'):j5 K (K8 ta tr) (gO ta' tr'):=fun σ τ H M Q' rs rm h Q c =>
 ha σ τ H M _ rs rm h _ fun u v M1 H1 s1 rm1 ru h1=>hr σ τ H1 M1 _ (rs.stp s1) rm1 h1 _ fun us vs M2 H2 s2 rm2 rus h2=>c (u :: us) (v :: vs) M2 H2 (s1.trans s2) rm2 (.cons (ru.stp s2) rus) h2
def pM (t:UA):UE:=fun τ M Q=>t τ M fun us M1=>us.length<=sizeLine/\Q (.tup us) M1
def rE (o:Bool) (t:UA):UE:=fun τ M Q=>t τ M fun us M1=>us.length<=sizeLine/\j2 o us M1 Q
theorem LM {t:TA} {t':UA} (h:j5 K t t'):bX K (NM t) (pM t'):=fun σ τ H M Q' rs rm q Q c =>
 h σ τ H M _ rs rm q _ fun us vs M1 H1 s1 rm1 r h1=>⟨by rw [<- r.length];exact h1.1,fun p hp=>(cW.stp c s1).tup rm1 r hp h1.2⟩
theorem Md {o:Bool} {t:TA} {t':UA} (h:j5 K t t'):bX K (O0 t) (rE o t'):=fun σ τ H M Q' rs rm q Q c =>
 h σ τ H M _ rs rm q _ fun us vs M1 H1 s1 rm1 r h1=>⟨by rw [<- r.length];exact h1.1,fun p hp=>(cW.stp c s1).lst rm1 r hp h1.2⟩
def qN (r:List U->aF->UK->Prop) (t:UA):UE:=fun τ M Q=>t τ M fun us M1=>r us M1 Q
theorem HX {r:List V->Hp->VK->Prop} {r':List U->aF->UK->Prop} {t:TA} {t':UA} (hr:sL K r r') (h:j5 K t t'):bX K (O2 r t) (qN r' t'):=fun σ τ H M Q' rs rm q Q c =>
 h σ τ H M _ rs rm q _ fun us vs M1 H1 s1 rm1 ru h1=>hr vs us H1 M1 Q' rm1 ru h1 Q (cW.stp c s1)
end
end U2
namespace U2
open PySem L2
section
variable {K:PySem.W.Frag}
def oM (g:Int->Int->U):eL:=fun x y M Q=>match x,y with
 | .int i,.int j=>Q (g i j) M
 | _,_=>False
def uI (C:Int->Int->Prop) (g:Int->Int->U):eL:=fun x y M Q=>match x,y with
 | .int i,.int j=>C i j/\Q (g i j) M
 | _,_=>False
theorem G2 {g:Int->Int->V} {g':Int->Int->U} (hg:∀ H M i j,aJ K H M (g' i j) (g i j)):eP K (tW g) (oM g'):=fun x y u w H M Q' rm ru rw h Q c=>by
 cases u with
 | int i=>cases w with
  | int j=>exact ⟨i,j,ru.int,rw.int,c _ _ M H (aR.refl _ _) rm (hg H M i j) h⟩
  | _=>exact h.elim
 | _=>exact h.elim
theorem QL {C:Int->Int->Prop} {g:Int->Int->V} {g':Int->Int->U} (hg:∀ H M i j,aJ K H M (g' i j) (g i j)):eP K (rI C g) (uI C g'):=fun x y u w H M Q' rm ru rw h Q c=>by
 cases u with
 | int i=>cases w with
  | int j=>exact ⟨i,j,ru.int,rw.int,h.1,c _ _ M H (aR.refl _ _) rm (hg H M i j) h.2⟩
  | _=>exact h.elim
 | _=>exact h.elim
theorem BR {f:Int->Int->Int}:eP K (tW fun i j=>.int (f i j)) (oM fun i j=>.int (f i j)):=G2 fun _ _ _ _=>cT
theorem qM {f:Int->Int->Bool}:eP K (tW fun i j=>.bl (f i j)) (oM fun i j=>.bl (f i j)):=G2 fun _ _ _ _=>dD
theorem qF {C:Int->Int->Prop} {f:Int->Int->Int}:eP K (rI C fun i j=>.int (f i j)) (uI C fun i j=>.int (f i j)):=QL fun _ _ _ _=>cT
def Qk:eL:=fun x y M Q=>match x,y with
 | .str i,.str j=>i.length + j.length<=sizeLine/\Q (.str (i++j)) M
 | _,_=>False
theorem II:eP K (fun x y H Q=>∃ i j,x=.str i/\y=.str j/\i.length + j.length<=sizeLine/\Q (.str (i++j)) H) Qk:=fun x y u w H M Q' rm ru rw h Q c=>by
 cases u with
 | str i=>cases w with
  | str j=>exact ⟨i,j,ru.str,rw.str,h.1,c _ _ M H (aR.refl _ _) rm lS h.2⟩
  | _=>exact h.elim
 | _=>exact h.elim
def A0 (K:PySem.W.Frag):R2:=fun x y H Q=>∃ a b xs ys,x=.ref a/\y=.ref b/\fW K H a xs/\fW K H b ys/\xs.length + ys.length<=sizeLine /\
 (xs=[]->Q (.ref b) H)/\(xs≠[]->ys=[]->Q (.ref a) H)/\(xs≠[]->ys≠[]->∀ p,H p=none->Q (.ref p) (upd H p (.tup (xs++ys))))
def QG:eL:=fun x y M Q=>match x,y with
 | .tup us,.tup ws=>us.length + ws.length<=sizeLine/\Q (.tup (us++ws)) M
 | _,_=>False
theorem KG:eP K (A0 K) QG:=fun x y u w H M Q' rm ru rw h Q c=>by
 cases u with
 | tup us=>cases w with
  | tup ws =>
   obtain ⟨h2,h3⟩:=h
   obtain ⟨a,xs,rfl,s1,r1⟩:=ru.tup
   obtain ⟨b,ys,rfl,s2,r2⟩:=rw.tup
   refine ⟨a,b,xs,ys,rfl,rfl,s1,s2,by rw [<- r1.length,<- r2.length];exact h2,fun e=>?_,fun _ e=>?_,fun _ _ p hp=>c.tup rm (r1.append r2) hp h3⟩
   ·subst e
    have e2:us=[]:=List.length_eq_zero_iff.mp r1.length
    subst e2
    exact c _ _ M H (aR.refl _ _) rm rw h3
   ·subst e
    have e2:ws=[]:=List.length_eq_zero_iff.mp r2.length
    subst e2
    exact c _ _ M H (aR.refl _ _) rm ru (by rw [List.append_nil] at h3;exact h3)
  | _=>exact h.elim
 | _=>exact h.elim
def mL (o:Bool):eL:=fun x y M Q=>match view M x,view M y with
 | .lst us,.lst ws=>us.length + ws.length<=sizeLine/\j2 o (us++ws) M Q
 | _,_=>False
def Ft (K:PySem.W.Frag):R2:=fun x y H Q=>∃ l b xs zs,x=.ref l/\y=.ref b/\eO K H l xs/\eO K H b zs/\xs.length + zs.length<=sizeLine/\∀ p,H p=none->Q (.ref p) (upd H p (.lst (xs++zs)))
theorem JP {o:Bool}:eP K (Ft K) (mL o):=fun x y u w H M Q' rm ru rw h Q c=>by
 unfold mL at h
 split at h
 ·rename_i us ws e1 e2
  obtain ⟨a,xs,rfl,s1,r1⟩:=fL rm ru e1
  obtain ⟨b,ys,rfl,s2,r2⟩:=fL rm rw e2
  exact ⟨a,b,xs,ys,rfl,rfl,s1,s2,by rw [<- r1.length,<- r2.length];exact h.1,fun p hp=>c.lst rm (r1.append r2) hp h.2⟩
 ·exact h.elim
theorem DO {H:Hp} {M:aF} {us:List U} {vs:List V} {i:Int} {u:U} (r:aI K H M us vs) (h:dM us i=some u):∃ v,dM vs i=some v/\aJ K H M u v:=by
 unfold dM at h ⊢
 rw [<- r.length]
 cases e:qQ us.length i with
 | none=>rw [e] at h;cases h
 | some j=>rw [e] at h;exact r.get h
def pZ:eL:=fun x y M Q=>match view M x,y with
 | .lst us,.int i=>∃ u,dM us i=some u/\Q u M
 | .tup us,.int i=>∃ u,dM us i=some u/\Q u M
 | .str z,.int i=>z.length<=sizeLine/\∃ c,dM z.cps.toList i=some c/\Q (.str ⟨#[c]⟩) M
 | _,_=>False
theorem pJ {M:aF} {u:U} {us:List U} (h:view M u=.tup us):u=.tup us:=by
 cases u with
 | ref a=>simp only [view] at h;split at h <;> cases h
 | _=>simpa [view] using h
theorem vW {M:aF} {u:U} {x:Str} (h:view M u=.str x):u=.str x:=by
 cases u with
 | ref a=>simp only [view] at h;split at h <;> cases h
 | _=>simpa [view] using h
theorem NR:eP K (Q7 K) pZ:=fun x y u w H M Q' rm ru rw h Q c=>by
 unfold pZ at h
 split at h
 ·rename_i us i e
  obtain ⟨z,h1,h2⟩:=h
  obtain ⟨a,xs,rfl,s1,r1⟩:=fL rm ru e
  obtain ⟨v,h3,h4⟩:=DO r1 h1
  exact .inl ⟨a,xs,i,v,rfl,rw.int,s1,h3,c _ _ M H (aR.refl _ _) rm h4 h2⟩
 ·rename_i us i e
  obtain ⟨z,h1,h2⟩:=h
  have e':=pJ e
  subst e'
  obtain ⟨a,xs,rfl,s1,r1⟩:=ru.tup
  obtain ⟨v,h3,h4⟩:=DO r1 h1
  exact .inr (.inl ⟨a,xs,i,v,rfl,rw.int,s1,h3,c _ _ M H (aR.refl _ _) rm h4 h2⟩)
 ·rename_i z i e
  obtain ⟨h0,d,h1,h2⟩:=h
  have e':=vW e
  subst e'
  exact .inr (.inr ⟨z,i,d,ru.str,rw.int,h0,h1,c _ _ M H (aR.refl _ _) rm lS h2⟩)
 ·exact h.elim
abbrev UO:=SU->aF->(Option Int->aF->Prop)->Prop
def A3 (K:PySem.W.Frag) (t:TO) (t':UO):Prop:=∀ (σ:St) (τ:SU) (H:Hp) (M:aF) (Q':Option Int->aF->Prop),dU K H M σ τ->RelM K H M->t' τ M Q' ->
 ∀ Q:Option Int->Hp->Prop,(∀ o M1 H1,aR H M H1 M1->RelM K H1 M1->Q' o M1->Q o H1)->t σ H Q
def jX:UO:=fun _ M Q=>Q none M
def nV (t:UE):UO:=fun τ M Q=>t τ M fun x M1=>match x with
 | .int i=>Q (some i) M1
 | _=>False
theorem EA:A3 K D6 jX:=fun σ τ H M Q' rs rm q Q c=>c none M H (aR.refl _ _) rm q
theorem KN {t:TE} {t':UE} (h:bX K t t'):A3 K (K5 t) (nV t'):=fun σ τ H M Q' rs rm q Q c=>h σ τ H M _ rs rm q _ fun u v M1 H1 s1 rm1 ru h1=>by
 cases u with
 | int i=>exact ⟨i,ru.int,c _ M1 H1 s1 rm1 h1⟩
 | _=>exact h1.elim
def j7 {α:Type} (xs:List α) (lo hi:Option Int):List α:=(xs.drop (HT.bM xs.length 0 lo)).take (HT.bM xs.length xs.length hi - HT.bM xs.length 0 lo)
theorem D5 {H:Hp} {M:aF} {us:List U} {vs:List V} (r:aI K H M us vs) (lo hi:Option Int):aI K H M (j7 us lo hi) (qV vs lo hi):=by
 unfold j7 qV
 rw [r.length]
 exact (r.drop _).take _
def N1 (K:PySem.W.Frag):V->Option Int->Option Int->Hp->VK->Prop:=fun x lo hi H Q =>
 (∃ a xs,x=.ref a/\eO K H a xs/\∀ p,H p=none->Q (.ref p) (upd H p (.lst (qV xs lo hi)))) \/
 (∃ a xs,x=.ref a/\fW K H a xs/\¬ (HT.bM xs.length 0 lo=0/\HT.bM xs.length xs.length hi=xs.length)/\∀ p,H p=none->Q (.ref p) (upd H p (.tup (qV xs lo hi)))) \/
 (∃ z:Str,x=.str z/\z.length<=sizeLine/\Q (.str (Txt.slice z lo hi)) H)
def R5 (o:Bool) (te:UE) (tl th:UO):UE:=fun τ M Q=>te τ M fun x M1=>tl τ M1 fun l M2=>th τ M2 fun h M3=>match view M3 x with
 | .lst us=>j2 o (j7 us l h) M3 Q
 | .tup us=>¬ (HT.bM us.length 0 l=0/\HT.bM us.length us.length h=us.length)/\Q (.tup (j7 us l h)) M3
 | .str z=>z.length<=sizeLine/\Q (.str (Txt.slice z l h)) M3
 | _=>False
end
section
variable {K:PySem.W.Frag} {t u:TS} {t' u':US} {te:TE} {te':UE}
def b8:US:=fun D τ M=>D.nx τ M
def oE (t u:US):US:=fun D τ M=>t { D with nx:=u D } τ M
def mN:US:=fun D τ M=>D.bk τ M
def oW:US:=fun D τ M=>D.ct τ M
def iR (te:UE):US:=fun D τ M=>te τ M fun _ M1=>D.nx τ M1
def cH (te:UE):US:=fun D τ M=>te τ M D.rt
def o7:US:=fun D _ M=>D.rt .non M
def oJ (c:UT) (t u:US):US:=fun D τ M=>c τ M fun b M1=>if b=true then t D τ M1 else u D τ M1
theorem Ji:lE K Lr b8:=fun σ τ H M D' rs rm h D d=>d.nx σ τ H M (aR.refl _ _) rm rs h
theorem Ly (h1:lE K t t') (h2:lE K u u'):lE K (Pu t u) (oE t' u'):=fun σ τ H M D' rs rm h D d =>
 h1 σ τ H M _ rs rm h _ ⟨fun σ1 τ1 H1 M1 s rm1 rs1 q=>h2 σ1 τ1 H1 M1 D' rs1 rm1 q D (d.stp s),d.rt,d.bk,d.ct⟩
theorem KU (h1:bX K te te'):lE K (K4 te) (iR te'):=fun σ τ H M D' rs rm h D d=>h1 σ τ H M _ rs rm h _ fun u v M1 H1 s rm1 ru q=>d.nx σ τ H1 M1 s rm1 (rs.stp s) q
theorem MC (h1:bX K te te'):lE K (OT te) (cH te'):=fun σ τ H M D' rs rm h D d=>h1 σ τ H M _ rs rm h _ fun u v M1 H1 s rm1 ru q=>d.rt u v H1 M1 s rm1 ru q
theorem Mm {c:TT} {c':UT} (hc:j3 K c c') (h1:lE K t t') (h2:lE K u u'):lE K (Py c t u) (oJ c' t' u'):=fun σ τ H M D' rs rm h D d=>hc σ τ H M _ rs rm h _ fun b M1 H1 s rm1 q=>by
 cases b with
 | true=>exact h1 σ τ H1 M1 D' (rs.stp s) rm1 q D (d.stp s)
 | false=>exact h2 σ τ H1 M1 D' (rs.stp s) rm1 q D (d.stp s)
abbrev UG:=U->SU->aF->(SU->aF->Prop)->Prop
abbrev xJ:=List U->SU->aF->(SU->aF->Prop)->Prop
def wL (K:PySem.W.Frag) (g:TG) (g':UG):Prop:=∀ (u:U) (v:V) (σ:St) (τ:SU) (H:Hp) (M:aF) (Q':SU->aF->Prop),aJ K H M u v->dU K H M σ τ->RelM K H M->g' u τ M Q' ->
 ∀ Q:St->Hp->Prop,(∀ σ1 τ1 H1 M1,aR H M H1 M1->RelM K H1 M1->dU K H1 M1 σ1 τ1->Q' τ1 M1->Q σ1 H1)->g v σ H Q
def yB (K:PySem.W.Frag) (g:pU) (g':xJ):Prop:=∀ (us:List U) (vs:List V) (σ:St) (τ:SU) (H:Hp) (M:aF) (Q':SU->aF->Prop),aI K H M us vs->dU K H M σ τ->RelM K H M->g' us τ M Q' ->
 ∀ Q:St->Hp->Prop,(∀ σ1 τ1 H1 M1,aR H M H1 M1->RelM K H1 M1->dU K H1 M1 σ1 τ1->Q' τ1 M1->Q σ1 H1)->g vs σ H Q
def hName (i:Nat):UG:=fun u τ M Q=>Q (τ.set i (some u)) M
theorem uO (i:Nat):wL K (tF i) (hName i):=fun u v σ τ H M Q' ru rs rm h Q c=>c _ _ H M (aR.refl _ _) rm (rs.set ru) h
def jZ:xJ:=fun us τ M Q=>match us with
 | []=>Q τ M
 | _=>False
def h9 (g:UG) (r:xJ):xJ:=fun us τ M Q=>match us with
 | u :: us=>g u τ M fun τ1 M1=>r us τ1 M1 Q
 | _=>False
theorem Jf:yB K Bk jZ:=fun us vs σ τ H M Q' ru rs rm h Q c=>by
 cases us with
 | nil=>exact ⟨ru.inv_nil,c σ τ H M (aR.refl _ _) rm rs h⟩
 | cons _ _=>exact h.elim
theorem GC {g:TG} {g':UG} {r:pU} {r':xJ} (h1:wL K g g') (h2:yB K r r'):yB K (xU g r) (h9 g' r'):=fun us vs σ τ H M Q' ru rs rm h Q c=>by
 cases us with
 | nil=>exact h.elim
 | cons u us =>
  obtain ⟨v,vs',rfl,a,b⟩:=ru.inv_cons
  exact ⟨v,vs',rfl,h1 u v σ τ H M _ a rs rm h _ fun σ1 τ1 H1 M1 s rm1 rs1 q=>h2 us vs' σ1 τ1 H1 M1 Q' (b.stp s) rs1 rm1 q Q fun σ2 τ2 H2 M2 s2=>c σ2 τ2 H2 M2 (s.trans s2)⟩
def iK (n:Nat) (r:xJ):UG:=fun u τ M Q=>match u with
 | .tup us=>us.length=n/\r us τ M Q
 | _=>False
theorem IT {n:Nat} {r:pU} {r':xJ} (h2:yB K r r'):wL K (A4 K n r) (iK n r'):=fun u v σ τ H M Q' ru rs rm h Q c=>by
 cases u with
 | tup us =>
  obtain ⟨a,vs,rfl,s1,r1⟩:=ru.tup
  exact ⟨a,vs,rfl,s1,by rw [<- r1.length];exact h.1,h2 us vs σ τ H M Q' r1 rs rm h.2 Q c⟩
 | _=>exact h.elim
def cF (te:UE) (g:UG):US:=fun D τ M=>te τ M fun x M1=>g x τ M1 D.nx
theorem Dl {g:TG} {g':UG} (h1:bX K te te') (h2:wL K g g'):lE K (Jt te g) (cF te' g'):=fun σ τ H M D' rs rm h D d =>
 h1 σ τ H M _ rs rm h _ fun u v M1 H1 s rm1 ru q=>h2 u v σ τ H1 M1 _ ru (rs.stp s) rm1 q _ fun σ1 τ1 H2 M2 s2 rm2 rs2 q2=>d.nx σ1 τ1 H2 M2 (s.trans s2) rm2 rs2 q2
def Cd (c:UT) (tb:US):US:=fun D τ M=>∃ (P:SU->aF->Prop) (μ:SU->aF->Nat),P τ M/\∀ τ M,P τ M->c τ M fun b M1=>if b=true then tb { D with nx:=fun τ' M'=>P τ' M'/\μ τ' M' < μ τ M,ct:=fun τ' M'=>P τ' M'/\μ τ' M' < μ τ M,bk:=D.nx } τ M1 else D.nx τ M1
theorem G8 {c:TT} {c':UT} (hc:j3 K c c') (h1:lE K t t'):lE K (Hz c t) (Cd c' t'):=fun σ τ H M D' rs rm h D d=>by
 obtain ⟨P,μ,p0,turn⟩:=h
 refine ⟨fun m σ1 H1=>∃ τ1 M1,aR H M H1 M1/\RelM K H1 M1/\dU K H1 M1 σ1 τ1/\P τ1 M1/\m=μ τ1 M1,⟨_,τ,M,aR.refl _ _,rm,rs,p0,rfl⟩,?_⟩
 rintro m σ1 H1 ⟨τ1,M1,s1,rm1,rs1,p1,rfl⟩
 refine hc σ1 τ1 H1 M1 _ rs1 rm1 (turn τ1 M1 p1) _ fun b M2 H2 s2 rm2 q=>?_
 cases b with
 | true =>
  refine ⟨fun σ3 H3=>∃ τ3 M3,aR H M H3 M3/\RelM K H3 M3/\dU K H3 M3 σ3 τ3/\P τ3 M3/\μ τ3 M3 < μ τ1 M1,?_,?_⟩
  ·rintro σ3 H3 ⟨τ3,M3,s3,rm3,rs3,p3,lt⟩
   exact ⟨_,lt,τ3,M3,s3,rm3,rs3,p3,rfl⟩
  ·have d2:=d.stp (s1.trans s2)
   exact h1 σ1 τ1 H2 M2 _ (rs1.stp s2) rm2 q _ ⟨fun σ3 τ3 H3 M3 s3 rm3 rs3 q3=>⟨τ3,M3,(s1.trans s2).trans s3,rm3,rs3,q3.1,q3.2⟩,d2.rt,d2.nx,fun σ3 τ3 H3 M3 s3 rm3 rs3 q3=>⟨τ3,M3,(s1.trans s2).trans s3,rm3,rs3,q3.1,q3.2⟩⟩
 | false=>exact d.nx σ1 τ1 H2 M2 (s1.trans s2) rm2 (rs1.stp s2) q
structure Src where
 own:Option Addr
 xs:List U
def Src.ok (S:Src) (M:aF):Prop:=∀ a,S.own=some a->M a=some (.lst S.xs)
structure Walk (K:PySem.W.Frag) (J:It) (S:Src) (H:Hp) (M:aF):Prop where
 step:∀ H1 M1,aR H M H1 M1->RelM K H1 M1->S.ok M1->∀ (i:Nat) u,S.xs[i]?=some u->J.go i H1/\∀ x H2,J.yld i H1 x H2->aR H1 M1 H2 M1/\RelM K H2 M1/\aJ K H2 M1 u x
 stop:∀ H1 M1,aR H M H1 M1->RelM K H1 M1->S.ok M1->J.stop S.xs.length H1
abbrev UI:=SU->aF->(Src->aF->Prop)->Prop
def rF (K:PySem.W.Frag) (t:TI) (t':UI):Prop:=∀ (σ:St) (τ:SU) (H:Hp) (M:aF) (R':Src->aF->Prop),dU K H M σ τ->RelM K H M->t' τ M R' ->
 ∀ R:It->Hp->Prop,(∀ J S M1 H1,aR H M H1 M1->RelM K H1 M1->Walk K J S H1 M1->R' S M1->R J H1)->t σ H R
def IY (wi:UI) (g:UG) (tb:US):US:=fun D τ M=>wi τ M fun S M1=>∃ P:Nat->SU->aF->Prop,P 0 τ M1/\(∀ i τ M,P i τ M->S.ok M) /\
 (∀ i x τ M,S.xs[i]?=some x->P i τ M->g x τ M fun τ2 M2=>tb { D with nx:=P (i + 1),ct:=P (i + 1),bk:=D.nx } τ2 M2)/\∀ τ M,P S.xs.length τ M->D.nx τ M
theorem ME {wi:TI} {wi':UI} {g:TG} {g':UG} (hi:rF K wi wi') (hg:wL K g g') (h1:lE K t t'):lE K (Pz wi g t) (IY wi' g' t'):=fun σ τ H M D' rs rm h D d=>by
 refine hi σ τ H M _ rs rm h _ fun J S M0 H0 s0 rm0 w h=>?_
 obtain ⟨P,p0,hok,turn,fin⟩:=h
 refine ⟨fun i m σ1 H1=>∃ τ1 M1,aR H0 M0 H1 M1/\RelM K H1 M1/\dU K H1 M1 σ1 τ1/\P i τ1 M1/\i<=S.xs.length/\m=S.xs.length - i,⟨_,τ,M0,aR.refl _ _,rm0,rs.stp s0,p0,Nat.zero_le _,rfl⟩,?_⟩
 rintro i m σ1 H1 ⟨τ1,M1,s1,rm1,rs1,p1,hle,rfl⟩
 have ok1:=hok i τ1 M1 p1
 by_cases hlt:i < S.xs.length
 ·obtain ⟨go,yl⟩:=w.step H1 M1 s1 rm1 ok1 i S.xs[i] (by simp [hlt])
  refine .inr ⟨go,fun σ3 H3=>∃ τ3 M3,aR H0 M0 H3 M3/\RelM K H3 M3/\dU K H3 M3 σ3 τ3/\P (i + 1) τ3 M3,?_,fun x H2 y=>?_⟩
  ·rintro σ3 H3 ⟨τ3,M3,s3,rm3,rs3,p3⟩
   exact ⟨S.xs.length - (i + 1),by omega,τ3,M3,s3,rm3,rs3,p3,hlt,rfl⟩
  ·obtain ⟨s2,rm2,ru⟩:=yl x H2 y
   refine hg _ x σ1 τ1 H2 M1 _ ru (rs1.stp s2) rm2 (turn i S.xs[i] τ1 M1 (by simp [hlt]) p1) _ fun σ3 τ3 H3 M3 s3 rm3 rs3 q3=>?_
   have d3:=d.stp (((s0.trans s1).trans s2).trans s3)
   exact h1 σ3 τ3 H3 M3 _ rs3 rm3 q3 _ ⟨fun σ4 τ4 H4 M4 s4 rm4 rs4 q4=>⟨τ4,M4,((s1.trans s2).trans s3).trans s4,rm4,rs4,q4⟩,d3.rt,d3.nx,fun σ4 τ4 H4 M4 s4 rm4 rs4 q4=>⟨τ4,M4,((s1.trans s2).trans s3).trans s4,rm4,rs4,q4⟩⟩
 ·have e:i=S.xs.length:=by omega
  subst e
  exact .inl ⟨w.stop H1 M1 s1 rm1 ok1,d.nx σ1 τ1 H1 M1 (s0.trans s1) rm1 rs1 (fin τ1 M1 p1)⟩
end
end U2
namespace U2
open PySem L2
section
variable {K:PySem.W.Frag}
theorem Gs {a:Addr} {us:List U} {vs:List V} {H:Hp} {M:aF} (m:(M a=none/\Rd H a (.lst vs))\/KL K a vs) (r:aI K H M us vs):Walk K (Lj K a) ⟨none,us⟩ H M:=by
 have sq:∀ H1 M1,aR H M H1 M1->eO K H1 a vs:=fun H1 M1 s=>by
  rcases m with ⟨m,h⟩ | k
  ·exact .inl (Rd.stp s m h).2
  ·exact .inr k
 refine ⟨fun H1 M1 s rm _ i u e=>?_,fun H1 M1 s rm _=>⟨vs,sq H1 M1 s,by rw [r.length];exact Nat.le_refl _⟩⟩
 obtain ⟨v,e2,ru⟩:=r.get e
 refine ⟨⟨vs,v,sq H1 M1 s,e2⟩,fun x H2 y=>?_⟩
 obtain ⟨rfl,y⟩:=y
 have:=y vs (sq _ M1 s)
 rw [e2] at this;cases this
 exact ⟨aR.refl _ _,rm,ru.stp s⟩
theorem Jh {a:Addr} {us:List U} {vs:List V} {H:Hp} {M:aF} (m:M a=none/\H a=some (.tup vs)) (r:aI K H M us vs):Walk K (Pw K a) ⟨none,us⟩ H M:=by
 have sq:∀ H1 M1,aR H M H1 M1->fW K H1 a vs:=fun H1 M1 s=>by
  exact .inl (.inl (s.to m.2 m.1).1)
 refine ⟨fun H1 M1 s rm _ i u e=>?_,fun H1 M1 s rm _=>⟨vs,sq H1 M1 s,by rw [r.length];exact Nat.le_refl _⟩⟩
 obtain ⟨v,e2,ru⟩:=r.get e
 refine ⟨⟨vs,v,sq H1 M1 s,e2⟩,fun x H2 y=>?_⟩
 obtain ⟨rfl,y⟩:=y
 have:=y vs (sq _ M1 s)
 rw [e2] at this;cases this
 exact ⟨aR.refl _ _,rm,ru.stp s⟩
theorem Ki {a:Addr} {us:List U} {H:Hp} {M:aF}:Walk K (Lj K a) ⟨some a,us⟩ H M:=by
 refine ⟨fun H1 M1 s rm ok i u e=>?_,fun H1 M1 s rm ok=>?_⟩
 ·obtain ⟨vs,h1,r⟩:=rm a _ (ok a rfl)
  obtain ⟨v,e2,ru⟩:=r.get e
  refine ⟨⟨vs,v,.inl (.inl h1),e2⟩,fun x H2 y=>?_⟩
  obtain ⟨rfl,y⟩:=y
  have:=y vs (.inl (.inl h1))
  rw [e2] at this;cases this
  exact ⟨aR.refl _ _,rm,ru⟩
 ·obtain ⟨vs,h1,r⟩:=rm a _ (ok a rfl)
  exact ⟨vs,.inl (.inl h1),by rw [r.length];exact Nat.le_refl _⟩
def NX (z:Str):It:=⟨fun i _=>i < z.cps.size,fun i H x H'=>H'=H/\∃ c,z.cps[i]?=some c/\x=.str ⟨#[c]⟩,fun i _=>i=z.cps.size⟩
def chars (z:Str):List U:=z.cps.toList.map fun c=>.str ⟨#[c]⟩
theorem JA {z:Str} {H:Hp} {M:aF}:Walk K (NX z) ⟨none,chars z⟩ H M:=by
 refine ⟨fun H1 M1 s rm _ i u e=>?_,fun H1 M1 s rm _=>?_⟩
 ·have hi:i < z.cps.size:=by
   have:=(List.getElem?_eq_some_iff.mp e).1
   simpa [chars] using this
  refine ⟨hi,fun x H2 y=>?_⟩
  obtain ⟨rfl,c,h1,rfl⟩:=y
  have:u=.str ⟨#[c]⟩:=by
   simp only [chars,List.getElem?_map,Array.getElem?_toList,h1,Option.map_some] at e
   exact (Option.some.inj e).symm
  subst this
  exact ⟨aR.refl _ _,rm,lS⟩
 ·show (chars z).length=z.cps.size
  simp [chars]
def O7 (K:PySem.W.Frag) (tl:TE):TI:=fun σ H R=>tl σ H fun x H1 =>
 (∃ a,x=.ref a/\(∃ xs,eO K H1 a xs)/\R (Lj K a) H1)\/(∃ a,x=.ref a/\(∃ xs,fW K H1 a xs)/\R (Pw K a) H1)\/(∃ z,x=.str z/\R (NX z) H1)
def kQ (te:UE):UI:=fun τ M R=>te τ M fun u M1=>match u with
 | .lst us=>R ⟨none,us⟩ M1
 | .tup us=>R ⟨none,us⟩ M1
 | .str z=>R ⟨none,chars z⟩ M1
 | .ref a=>match M1 a with
  | some (.lst us)=>R ⟨some a,us⟩ M1
  | _=>False
 | _=>False
theorem JE {te:TE} {te':UE} (h:bX K te te'):rF K (O7 K te) (kQ te'):=fun σ τ H M R' rs rm q R c=>h σ τ H M _ rs rm q _ fun u v M1 H1 s1 rm1 ru h1=>by
 cases u with
 | lst us =>
  simp only [aJ] at ru
  obtain ⟨a,vs,rfl,m,r⟩:=ru
  refine .inl ⟨a,rfl,⟨vs,?_⟩,c _ _ M1 H1 s1 rm1 (Gs m r) h1⟩
  rcases m with ⟨_,m⟩ | k
  ·exact .inl m
  ·exact .inr k
 | tup us =>
  simp only [aJ] at ru
  obtain ⟨a,vs,rfl,m,r⟩:=ru
  refine .inr (.inl ⟨a,rfl,⟨vs,?_⟩,c _ _ M1 H1 s1 rm1 (Jh m r) h1⟩)
  exact .inl (.inl m.2)
 | str z=>exact .inr (.inr ⟨z,ru.str,c _ _ M1 H1 s1 rm1 JA h1⟩)
 | ref a =>
  dsimp only at h1
  split at h1
  ·rename_i us e
   obtain ⟨vs,h2,r⟩:=rm1 a _ e
   exact .inl ⟨a,ru.ref,⟨vs,.inl (.inl h2)⟩,c _ _ M1 H1 s1 rm1 Ki h1⟩
  ·exact h1.elim
 | _=>exact h1.elim
def iH (lo:Int) (n:Nat):List U:=(List.range n).map fun (k:Nat)=>U.int (lo + (k:Int))
theorem E6 {lo:Int} {n:Nat} {H:Hp} {M:aF}:Walk K (Lu lo n) ⟨none,iH lo n⟩ H M:=by
 refine ⟨fun H1 M1 s rm _ i u e=>?_,fun H1 M1 s rm _=>?_⟩
 ·have hi:i < n:=by
   have:=(List.getElem?_eq_some_iff.mp e).1
   simpa [iH] using this
  refine ⟨hi,fun x H2 y=>?_⟩
  obtain ⟨rfl,rfl⟩:=y
  have:u=.int (lo + i):=by
   simp only [iH,List.getElem?_map,List.getElem?_range hi,Option.map_some] at e
   exact (Option.some.inj e).symm
  subst this
  exact ⟨aR.refl _ _,rm,cT⟩
 ·show n<=(iH lo n).length
  simp [iH]
def nW (ta:UA):UI:=fun τ M R=>ta τ M fun us M1=>match us with
 | [.int j]=>-(2 ^ 62)<=j/\j < 2 ^ 62/\R ⟨none,iH 0 j.toNat⟩ M1
 | _=>False
def qD (ta:UA):UI:=fun τ M R=>ta τ M fun us M1=>match us with
 | [.int i,.int j]=>(-(2 ^ 62)<=i/\i < 2 ^ 62/\-(2 ^ 62)<=j/\j < 2 ^ 62)/\R ⟨none,iH i (j - i).toNat⟩ M1
 | _=>False
theorem Je {ta:TA} {ta':UA} (h:j5 K ta ta'):rF K (Lp ta) (nW ta'):=fun σ τ H M R' rs rm q R c=>h σ τ H M _ rs rm q _ fun us vs M1 H1 s1 rm1 ru h1=>by
 split at h1
 ·rename_i j
  obtain ⟨v,vs',rfl,a,b⟩:=ru.inv_cons
  cases b.inv_nil
  cases a.int
  exact ⟨j,rfl,h1.1,h1.2.1,c _ _ M1 H1 s1 rm1 E6 h1.2.2⟩
 ·exact h1.elim
abbrev bF:=List U->aF->UK->Prop
def fE (K:PySem.W.Frag) (sp:bF):Sp:=fun vs H Q _=>∃ us M Q',RelM K H M/\aI K H M us vs/\sp us M Q'/\cW K H M Q' Q
def kS (sp:bF) (dus:List U) (t:UA):UE:=fun τ M Q=>t τ M fun us M1=>sp (us++dus) M1 Q
theorem Ku {sp:bF} {dus:List U} {dvs:List V} {E:XK} {t:TA} {t':UA} (hd:∀ H M,aI K H M dus dvs) (h:j5 K t t'):bX K (ET (fE K sp) dvs E t) (kS sp dus t'):=fun σ τ H M Q' rs rm q Q c =>
 h σ τ H M _ rs rm q _ fun us vs M1 H1 s1 rm1 ru h1=>⟨us++dus,M1,Q',rm1,ru.append (hd _ _),h1,cW.stp c s1⟩
def Sub (M' M1:aF):Prop:=∀ b mo,M' b=some mo->M1 b=some mo
theorem Sub.refl (M:aF):Sub M M:=fun _ _ h=>h
theorem Sub.mup {M M1:aF} {p:Addr} {o:MO} (h:Sub M M1) (hp:M p=none):Sub M (mup M1 p o):=fun b mo e=>by
 have:b≠p:=fun z=>by subst z;rw [hp] at e;cases e
 rw [aT this];exact h b mo e
theorem Sub.less {M M1:aF} (h:Sub M M1) {H:Hp}:aR H M1 H M:=aR.less fun b e=>by
 cases q:M b with
 | none=>rfl
 | some mo=>rw [h b mo q] at e;cases e
theorem RelM.sub {H:Hp} {M M1:aF} (rm:RelM K H M1) (h:Sub M M1):RelM K H M:=fun a mo e=>(rm a mo (h a mo e)).stp (fun b q z=>h b _ z) (h.less) rfl
def Out (M1 M':aF) (u u':U):Prop:=u'=u\/∃ a us,u=.ref a/\M1 a=some (.lst us)/\M' a=none/\u'=.lst us
def iP (Q:UK):UK:=fun u M1=>∃ u' M',Sub M' M1/\Out M1 M' u u'/\Q u' M'
theorem iP.ok {H H1:Hp} {M M1:aF} {Q':UK} {Q:VK} {u:U} {v:V} (c:cW K H M Q' Q) (s:aR H M H1 M1) (rm:RelM K H1 M1) (ru:aJ K H1 M1 u v) (h:iP Q' u M1):Q v H1:=by
 obtain ⟨u',M',sb,o,q⟩:=h
 have s':aR H1 M1 H1 M':=sb.less
 refine c u' v M' H1 (s.trans s') (rm.sub sb) ?_ q
 rcases o with rfl | ⟨a,us,rfl,h1,h2,rfl⟩
 ·exact ru.stp s'
 ·obtain ⟨vs,h3,h4⟩:=rm a _ h1
  cases ru.ref
  exact tB h2 h3 (h4.stp s')
def fG (N:List Str) (us:List U):SU:=us.map some++List.replicate (N.length - us.length) none
def DF (M:aF) (x:U):Prop:=∃ us,view M x=.lst us
def tR (r:U->List U->aF->UK->Prop) (to:UE) (t:UA):UE:=fun τ M Q=>to τ M fun x M1=>DF M1 x/\t τ M1 fun xs M2=>r x xs M2 Q
def rA (r:U->List U->aF->UK->Prop) (to:UE):UE:=fun τ M Q=>to τ M fun x M1=>DF M1 x/\r x [] M1 Q
theorem DF.ty {H:Hp} {M:aF} {u:U} {v:V} (rm:RelM K H M) (ru:aJ K H M u v) (h:DF M u):KZ K "list" v H:=by
 obtain ⟨us,h⟩:=h
 obtain ⟨a,vs,rfl,s,_⟩:=fL rm ru h
 exact .inl ⟨rfl,vs,s⟩
theorem Bg {r:V->List V->Hp->VK->Prop} {r':U->List U->aF->UK->Prop} {to:TE} {to':UE} {t:TA} {t':UA} (hr:vA K r r') (ho:bX K to to') (h:j5 K t t') :
  bX K (Q0 K "list" r to t) (tR r' to' t'):=fun σ τ H M Q' rs rm q Q c =>
 ho σ τ H M _ rs rm q _ fun u v M1 H1 s1 rm1 ru h1=>⟨h1.1.ty rm1 ru,h σ τ H1 M1 _ (rs.stp s1) rm1 h1.2 _ fun us vs M2 H2 s2 rm2 rus h2=>hr v vs u us H2 M2 Q' rm2 (ru.stp s2) rus h2 Q (cW.stp c (s1.trans s2))⟩
theorem Mg {r:V->List V->Hp->VK->Prop} {r':U->List U->aF->UK->Prop} {to:TE} {to':UE} (hr:vA K r r') (ho:bX K to to') :
  bX K (ND K "list" r to) (rA r' to'):=fun σ τ H M Q' rs rm q Q c =>
 ho σ τ H M _ rs rm q _ fun u v M1 H1 s1 rm1 ru h1=>⟨h1.1.ty rm1 ru,hr v [] u [] H1 M1 Q' rm1 ru .nil h1.2 Q (cW.stp c s1)⟩
theorem cW.write {H:Hp} {M:aF} {Q':UK} {Q:VK} {a:Addr} {us us':List U} {xs':List V} {r:U} {v:V} (c:cW K H M Q' Q) (rm:RelM K H M) (e:M a=some (.lst us)) (r1:aI K H M us' xs') (r2:aJ K H M r v) (q:Q' r (mup M a (.lst us'))):Q v (upd H a (.lst xs')):=by
 have st:aR H M (upd H a (.lst xs')) (mup M a (.lst us')):=aR.write e
 exact c _ _ _ _ st (rm.put st ⟨xs',cJ,r1.stp st⟩) (r2.stp st) q
def iS:U->List U->aF->UK->Prop:=fun x ws M Q=>match x,ws with
 | .ref a,[w]=>match M a with
  | some (.lst us)=>us.length < sizeLine/\Q .non (mup M a (.lst (us++[w])))
  | _=>False
 | _,_=>False
theorem Gb:vA K DM iS:=fun x xs u us H M Q' rm ru rus h Q c=>by
 unfold iS at h
 split at h
 ·rename_i a w
  split at h
  ·rename_i ws e
   obtain ⟨vs,h1,r⟩:=rm a _ e
   obtain ⟨v,vs',rfl,a1,b⟩:=rus.inv_cons
   cases b.inv_nil
   cases ru.ref
   exact ⟨a,vs,v,rfl,rfl,h1,by rw [<- r.length];exact h.1,c.write rm e (r.append (.cons a1 .nil)) m6 h.2⟩
  ·exact h.elim
 ·exact h.elim
def pH:U->List U->aF->UK->Prop:=fun x ws M Q=>match x,ws with
 | .ref a,[]=>match M a with
  | some (.lst us)=>match us.getLast? with
   | some w=>Q w (mup M a (.lst us.dropLast))
   | none=>False
  | _=>False
 | _,_=>False
theorem Ni:vA K Px pH:=fun x xs u us H M Q' rm ru rus h Q c=>by
 unfold pH at h
 split at h
 ·rename_i a
  split at h
  ·rename_i ws e
   split at h
   ·rename_i w e2
    obtain ⟨vs,h1,r⟩:=rm a _ e
    cases rus.inv_nil
    cases ru.ref
    rw [List.getLast?_eq_getElem?] at e2
    obtain ⟨v,h3,h4⟩:=r.get e2
    exact ⟨a,vs,v,rfl,rfl,h1,by rw [<- r.length];exact h3,c.write rm e r.dropLast h4 h⟩
   ·exact h.elim
  ·exact h.elim
 ·exact h.elim
def A5 (K:PySem.W.Frag):V->List V->Hp->VK->Prop:=fun x vs H Q=>∃ l b xs zs,x=.ref l/\vs=[.ref b]/\H l=some (.lst xs)/\eO K H b zs/\xs.length + zs.length<=sizeLine/\Q .non (upd H l (.lst (xs++zs)))
def iW:U->List U->aF->UK->Prop:=fun x ws M Q=>match x,ws with
 | .ref a,[w]=>match M a,view M w with
  | some (.lst us),.lst zs=>us.length + zs.length<=sizeLine/\Q .non (mup M a (.lst (us++zs)))
  | _,_=>False
 | _,_=>False
theorem Gj:vA K (A5 K) iW:=fun x xs u us H M Q' rm ru rus h Q c=>by
 unfold iW at h
 split at h
 ·rename_i a w
  split at h
  ·rename_i ws zs e e2
   obtain ⟨vs,h1,r⟩:=rm a _ e
   obtain ⟨v,vs',rfl,a1,b⟩:=rus.inv_cons
   cases b.inv_nil
   cases ru.ref
   obtain ⟨b,zvs,rfl,s2,r2⟩:=fL rm a1 e2
   exact ⟨a,b,vs,zvs,rfl,rfl,h1,s2,by rw [<- r.length,<- r2.length];exact h.1,c.write rm e (r.append r2) m6 h.2⟩
  ·exact h.elim
 ·exact h.elim
def n8:U->List U->aF->UK->Prop:=fun x ws M Q=>match x,ws with
 | .ref a,[]=>match M a with
  | some (.lst us)=>Q .non (mup M a (.lst []))
  | _=>False
 | _,_=>False
def nO:List U->aF->UK->Prop:=fun us M Q=>match us with
 | [x]=>match view M x with
  | .lst ws=>Q (.int ws.length) M
  | .tup ws=>Q (.int ws.length) M
  | .str z=>z.length<=sizeLine/\Q (.int z.length) M
  | _=>False
 | _=>False
theorem Np:sL K (fun xs H Q=>∃ x n,xs=[x]/\OD K x H n/\Q (.int n) H) nO:=fun xs us H M Q' rm rus h Q c=>by
 unfold nO at h
 split at h
 ·rename_i x
  obtain ⟨v,vs',rfl,a1,b⟩:=rus.inv_cons
  cases b.inv_nil
  split at h
  ·rename_i ws e
   obtain ⟨b,zvs,rfl,s2,r2⟩:=fL rm a1 e
   exact ⟨_,zvs.length,rfl,.inl ⟨zvs,s2,rfl⟩,c.here rm cT (by rw [<- r2.length];exact h)⟩
  ·rename_i ws e
   have e':=pJ e
   subst e'
   obtain ⟨b,zvs,rfl,s2,r2⟩:=a1.tup
   exact ⟨_,zvs.length,rfl,.inr ⟨zvs,s2,rfl⟩,c.here rm cT (by rw [<- r2.length];exact h)⟩
  ·rename_i z e
   have e':=vW e
   subst e'
   cases a1.str
   exact ⟨_,z.length,rfl,⟨h.1,rfl⟩,c.here rm cT h.2⟩
  ·exact h.elim
 ·exact h.elim
def mQ (C:Int->Prop) (g:Int->U):List U->aF->UK->Prop:=fun us M Q=>match us with
 | [.int i]=>C i/\Q (g i) M
 | _=>False
def qO (g:Int->Int->U):List U->aF->UK->Prop:=fun us M Q=>match us with
 | [.int i,.int j]=>Q (g i j) M
 | _=>False
theorem aI.one {H:Hp} {M:aF} {u:U} {vs:List V} (h:aI K H M [u] vs):∃ v,vs=[v]/\aJ K H M u v:=by
 obtain ⟨v,vs',rfl,a1,b⟩:=h.inv_cons
 cases b.inv_nil
 exact ⟨v,rfl,a1⟩
theorem aI.two {H:Hp} {M:aF} {u w:U} {vs:List V} (h:aI K H M [u,w] vs):∃ v z,vs=[v,z]/\aJ K H M u v/\aJ K H M w z:=by
 obtain ⟨v,vs',rfl,a1,b⟩:=h.inv_cons
 obtain ⟨z,rfl,b1⟩:=b.one
 exact ⟨v,z,rfl,a1,b1⟩
theorem Nl:sL K (fun xs H Q=>∃ i,xs=[.int i]/\Q (.int (if i < 0 then -i else i)) H) (mQ (fun _=>True) fun i=>.int (if i < 0 then -i else i)):=fun xs us H M Q' rm rus h Q c=>by
 unfold mQ at h
 split at h
 ·rename_i i
  obtain ⟨v,rfl,a⟩:=rus.one
  cases a.int
  exact ⟨i,rfl,c.here rm cT h.2⟩
 ·exact h.elim
def mU (o:Bool):List U->aF->UK->Prop:=fun us M Q=>match us with
 | [x]=>match view M x with
  | .lst ws=>j2 o ws M Q
  | .tup ws=>j2 o ws M Q
  | _=>False
 | _=>False
def j9:List U->aF->UK->Prop:=fun us M Q=>match us with
 | [x]=>match view M x with
  | .lst ws=>Q (.tup ws) M
  | .tup ws=>Q (.tup ws) M
  | _=>False
 | _=>False
theorem Jr {o:Bool}:sL K (fun xs H Q=>∃ p ys,xs=[.ref p]/\(eO K H p ys\/fW K H p ys)/\∀ l,H l=none->Q (.ref l) (upd H l (.lst ys))) (mU o):=fun xs us H M Q' rm rus h Q c=>by
 unfold mU at h
 split at h
 ·rename_i x
  obtain ⟨v,rfl,a1⟩:=rus.one
  split at h
  ·rename_i ws e
   obtain ⟨b,zvs,rfl,s2,r2⟩:=fL rm a1 e
   exact ⟨b,zvs,rfl,.inl s2,fun l hl=>c.lst rm r2 hl h⟩
  ·rename_i ws e
   have e':=pJ e
   subst e'
   obtain ⟨b,zvs,rfl,s2,r2⟩:=a1.tup
   exact ⟨b,zvs,rfl,.inr s2,fun l hl=>c.lst rm r2 hl h⟩
  ·exact h.elim
 ·exact h.elim
theorem Ie:sL K (fun xs H Q=>∃ p ys,xs=[.ref p]/\((eO K H p ys/\∀ l,H l=none->Q (.ref l) (upd H l (.tup ys)))\/(fW K H p ys/\Q (.ref p) H))) j9:=fun xs us H M Q' rm rus h Q c=>by
 unfold j9 at h
 split at h
 ·rename_i x
  obtain ⟨v,rfl,a1⟩:=rus.one
  split at h
  ·rename_i ws e
   obtain ⟨b,zvs,rfl,s2,r2⟩:=fL rm a1 e
   exact ⟨b,zvs,rfl,.inl ⟨s2,fun l hl=>c.tup rm r2 hl h⟩⟩
  ·rename_i ws e
   have e':=pJ e
   subst e'
   have a2:=a1
   obtain ⟨b,zvs,rfl,s2,r2⟩:=a1.tup
   exact ⟨b,zvs,rfl,.inr ⟨s2,c.here rm a2 h⟩⟩
  ·exact h.elim
 ·exact h.elim
def nM (M:aF) (x:U):Option String:=match x with
 | .non=>some "NoneType"
 | .bl _=>some "bool"
 | .int _=>some "int"
 | .str _=>some "str"
 | .tup _=>some "tuple"
 | .lst _=>some "list"
 | .ref a=>match M a with
  | some (.lst _)=>some "list"
  | some (.dK _)=>some "dict"
  | some (.dT _)=>some "dict"
  | _=>none
 | .dic _ _ _=>some "dict"
 | .ty _=>none
def zI:U->U->Option Bool
 | .non,.non=>some true
 | .non,.int _=>some false | .int _,.non=>some false | .non,.bl _=>some false | .bl _,.non=>some false | .non,.str _=>some false | .str _,.non=>some false
 | .int i,.int j=>some (decide (i=j))
 | .bl i,.bl j=>some (decide (i=j))
 | .str i,.str j=>some (decide (i=j))
 | .int _,.str _=>some false | .str _,.int _=>some false | .bl _,.str _=>some false | .str _,.bl _=>some false
 | _,_=>none
def uB:eL:=fun x y M Q=>match zI x y with
 | some b=>Q (.bl b) M
 | none=>False
def uA:eL:=fun x y M Q=>match zI x y with
 | some b=>Q (.bl (!b)) M
 | none=>False
theorem Dv {H:Hp} {M:aF} {x y:V} {u w:U} {b:Bool} (ru:aJ K H M u x) (rw:aJ K H M w y) (h:zI u w=some b):Ew x y=true/\decide (x=y)=b:=by
 cases u <;> cases w <;> simp only [zI,Option.some.injEq,reduceCtorEq] at h <;> subst h <;>
  (first
   | (cases ru.non) | (cases ru.bl) | (cases ru.int) | (cases ru.str)) <;>
  (first
   | (cases rw.non) | (cases rw.bl) | (cases rw.int) | (cases rw.str)) <;> simp [Ew]
def gK:U->Bool
 | .non=>true
 | _=>false
def pL:eL:=fun x y M Q=>match y with
 | .non=>Q (.bl (gK x)) M
 | _=>False
def qH:eL:=fun x y M Q=>match y with
 | .non=>Q (.bl (!gK x)) M
 | _=>False
theorem Ny {H:Hp} {M:aF} {x:V} {u:U} (ru:aJ K H M u x):decide (x=.non)=gK u:=by
 cases u with
 | non=>cases ru.non;simp [gK]
 | bl b=>cases ru.bl;simp [gK]
 | int b=>cases ru.int;simp [gK]
 | str b=>cases ru.str;simp [gK]
 | ty b=>cases ru.ty;simp [gK]
 | ref b=>cases ru.ref;simp [gK]
 | tup b=>obtain ⟨a,vs,rfl,_⟩:=ru.tup;simp [gK]
 | lst b=>obtain ⟨a,vs,rfl,_⟩:=ru.lst;simp [gK]
 | dic ks tk us=>simp only [aJ] at ru;obtain ⟨a,vs,rfl,_⟩:=ru;simp [gK]
theorem NB:eP K (fun x y H Q=>y=.non/\Q (.bl (decide (x=.non))) H) pL:=fun x y u w H M Q' rm ru rw h Q c=>by
 unfold pL at h
 split at h
 ·exact ⟨rw.non,c.here rm (by rw [Ny ru];exact dD) h⟩
 ·exact h.elim
end
end U2
namespace U2
open PySem L2
def eJ {α:Type} (k:Nat) (ix:List Nat) (σ:List (Option α)):List (Option α):=List.replicate k none++ix.map fun i=>(σ[i]?).getD none
def AK (k:Nat) (ix:List Nat) (wi:TI) (g:TG) (tc:TT) (te:TE):TE:=fun σ H Q=>wi σ H fun J H1=>∀ D,H1 D=none->∃ W:Nat->Nat->Hp->Prop,(∃ m,W 0 m (upd H1 D (.lst [])))/\∀ i m H,W i m H ->
 (J.stop i H/\Q (.ref D) H)\/(J.go i H/\∀ x H',J.yld i H x H'->g x (eJ k ix σ) H' fun σ2 H2=>tc σ2 H2 fun ok H3 =>
  if ok=true then te σ2 H3 fun y H4=>∃ ys,H4 D=some (.lst ys)/\ys.length < sizeLine/\∃ m',m' < m/\W (i + 1) m' (upd H4 D (.lst (ys++[y]))) else ∃ m',m' < m/\W (i + 1) m' H3)
def NT (o:Bool) (Q:UK) (D:Addr) (ys:List U) (M:aF):Prop:=match o with
 | true=>Q (.ref D) M
 | false=>∃ M',Sub M' M/\M' D=none/\Q (.lst ys) M'
def sX (o:Bool) (k:Nat) (ix:List Nat) (wi:UI) (g:UG) (tc:UT) (te:UE):UE:=fun τ M Q=>wi τ M fun S M1=>S.xs.length<=sizeLine/\∀ D,M1 D=none->∃ P:Nat->List U->aF->Prop,P 0 [] (mup M1 D (.lst [])) /\
 (∀ i ys M,P i ys M->S.ok M/\M D=some (.lst ys)/\ys.length<=i) /\
 (∀ i x ys M,S.xs[i]?=some x->P i ys M->g x (eJ k ix τ) M fun τ2 M2=>tc τ2 M2 fun ok M3=>if ok=true then te τ2 M3 fun y M4=>M4 D=some (.lst ys)/\P (i + 1) (ys++[y]) (mup M4 D (.lst (ys++[y]))) else P (i + 1) ys M3) /\
 ∀ ys M,P S.xs.length ys M->NT o Q D ys M
section
variable {K:PySem.W.Frag}
theorem JR {H:Hp} {M:aF} {σ:St} {τ:SU} (k:Nat) (ix:List Nat) (r:dU K H M σ τ):dU K H M (eJ k ix σ) (eJ k ix τ):=by
 refine ⟨by simp [eJ],fun i u e=>?_⟩
 unfold eJ at e ⊢
 by_cases hi:i < k
 ·rw [List.getElem?_append_left (by simpa using hi),List.getElem?_replicate] at e
  split at e <;> cases e
 ·rw [List.getElem?_append_right (by simpa using Nat.le_of_not_lt hi),List.getElem?_map] at e ⊢
  simp only [List.length_replicate] at e ⊢
  cases q:ix[i - k]? with
  | none=>rw [q] at e;cases e
  | some j =>
   rw [q] at e
   simp only [Option.map_some,Option.some.injEq] at e ⊢
   cases z:τ[j]? with
   | none=>rw [z] at e;cases e
   | some w =>
    rw [z] at e
    simp only [Option.getD_some] at e
    subst e
    obtain ⟨v,h1,h2⟩:=r.2 j u z
    exact ⟨v,by rw [h1];rfl,h2⟩
theorem By {o:Bool} {k:Nat} {ix:List Nat} {wi:TI} {wi':UI} {g:TG} {g':UG} {tc:TT} {tc':UT} {te:TE} {te':UE} (hi:rF K wi wi') (hg:wL K g g') (hc:j3 K tc tc') (he:bX K te te') :
  bX K (AK k ix wi g tc te) (sX o k ix wi' g' tc' te'):=fun σ τ H M Q' rs rm h Q c=>by
 refine hi σ τ H M _ rs rm h _ fun J S M1 H1 s1 rm1 w h=>?_
 obtain ⟨hz,h⟩:=h
 intro D hD
 obtain ⟨P,p0,inv,turn,fin⟩:=h D (rm1.no hD)
 have sD:aR H1 M1 (upd H1 D (.lst [])) (mup M1 D (.lst [])):=aR.own rm1 hD
 have rmD:RelM K (upd H1 D (.lst [])) (mup M1 D (.lst [])):=rm1.put sD ⟨[],cJ,.nil⟩
 refine ⟨fun i m H2=>∃ M2 ys,aR H1 M1 H2 M2/\RelM K H2 M2/\P i ys M2/\i<=S.xs.length/\m=S.xs.length - i,⟨_,_,[],sD,rmD,p0,Nat.zero_le _,rfl⟩,?_⟩
 rintro i m H2 ⟨M2,ys,s2,rm2,p2,hle,rfl⟩
 obtain ⟨ok2,d2,l2⟩:=inv i ys M2 p2
 by_cases hlt:i < S.xs.length
 ·obtain ⟨go,yl⟩:=w.step H2 M2 s2 rm2 ok2 i S.xs[i] (by simp [hlt])
  refine .inr ⟨go,fun x H3 y=>?_⟩
  obtain ⟨s3,rm3,ru⟩:=yl x H3 y
  have rs3:dU K H3 M2 (eJ k ix σ) (eJ k ix τ):=JR k ix (((rs.stp s1).stp s2).stp s3)
  refine hg _ x _ _ H3 M2 _ ru rs3 rm3 (turn i S.xs[i] ys M2 (by simp [hlt]) p2) _ fun σ4 τ4 H4 M4 s4 rm4 rs4 q4=>?_
  refine hc σ4 τ4 H4 M4 _ rs4 rm4 q4 _ fun b M5 H5 s5 rm5 q5=>?_
  have s25:aR H1 M1 H5 M5:=((s2.trans s3).trans s4).trans s5
  cases b with
  | false =>
   exact ⟨S.xs.length - (i + 1),by omega,M5,ys,s25,rm5,q5,hlt,rfl⟩
  | true =>
   refine he σ4 τ4 H5 M5 _ (rs4.stp s5) rm5 q5 _ fun u v M6 H6 s6 rm6 ru6 q6=>?_
   obtain ⟨d6,p6⟩:=q6
   obtain ⟨vs,h6,r6⟩:=rm6 D _ d6
   have l6:vs.length < sizeLine:=by rw [<- r6.length];omega
   have s7:aR H6 M6 (upd H6 D (.lst (vs++[v]))) (mup M6 D (.lst (ys++[u]))):=aR.write d6
   exact ⟨vs,h6,l6,S.xs.length - (i + 1),by omega,_,ys++[u],(s25.trans s6).trans s7,rm6.put s7 ⟨_,cJ,(r6.append (.cons ru6 .nil)).stp s7⟩,p6,hlt,rfl⟩
 ·have e:i=S.xs.length:=by omega
  subst e
  refine .inl ⟨w.stop H2 M2 s2 rm2 ok2,?_⟩
  have q:=fin ys M2 p2
  cases o with
  | true=>exact c _ _ M2 H2 (s1.trans s2) rm2 m8 q
  | false =>
   obtain ⟨M',sb,n,q⟩:=q
   obtain ⟨vs,h6,r6⟩:=rm2 D _ d2
   have s':aR H2 M2 H2 M':=sb.less
   exact c _ _ M' H2 ((s1.trans s2).trans s') (rm2.sub sb) (tB n h6 (r6.stp s')) q
end
theorem Hb {o:Bool} {k:Nat} {ix:List Nat} {wi:UI} {g:UG} {tc:UT} {te:UE} {τ:SU} {M1:aF} {Q:UK} {S:Src} (f:U->Option U) (hz:S.xs.length<=sizeLine) (hs:S.ok M1)
  (h:∀ x∈S.xs,∀ M,Sub M1 M->∀ R:Option U->aF->Prop,R (f x) M->g x (eJ k ix τ) M fun τ2 M2=>tc τ2 M2 fun ok M3=>if ok=true then te τ2 M3 fun y M4=>R (some y) M4 else R none M3)
  (q:j2 o (S.xs.filterMap f) M1 Q):S.xs.length<=sizeLine/\∀ D,M1 D=none->∃ P:Nat->List U->aF->Prop,P 0 [] (mup M1 D (.lst [])) /\
 (∀ i ys M,P i ys M->S.ok M/\M D=some (.lst ys)/\ys.length<=i) /\
 (∀ i x ys M,S.xs[i]?=some x->P i ys M->g x (eJ k ix τ) M fun τ2 M2=>tc τ2 M2 fun ok M3=>if ok=true then te τ2 M3 fun y M4=>M4 D=some (.lst ys)/\P (i + 1) (ys++[y]) (mup M4 D (.lst (ys++[y]))) else P (i + 1) ys M3) /\
 ∀ ys M,P S.xs.length ys M->NT o Q D ys M:=by
 refine ⟨hz,fun D hD=>⟨fun i ys M=>ys=(S.xs.take i).filterMap f/\M=mup M1 D (.lst ys)/\i<=S.xs.length,⟨by simp,rfl,Nat.zero_le _⟩,?_,?_,?_⟩⟩
 ·rintro i ys M ⟨rfl,rfl,hi⟩
  refine ⟨fun a e=>?_,aS,?_⟩
  ·have:=hs a e
   rw [aT (fun z=>by subst z;rw [hD] at this;cases this)]
   exact this
  ·refine Nat.le_trans (List.length_filterMap_le _ _) ?_
   rw [List.length_take];omega
 ·rintro i x ys M e ⟨rfl,rfl,hi⟩
  have hlt:i < S.xs.length:=(List.getElem?_eq_some_iff.mp e).1
  have hx:x∈S.xs:=List.mem_of_getElem? e
  have tk:(S.xs.take (i + 1)).filterMap f=(S.xs.take i).filterMap f++(f x).toList:=by
   rw [List.take_add_one,e,List.filterMap_append]
   cases q:f x <;> simp [q]
  refine h x hx (mup M1 D (.lst ((S.xs.take i).filterMap f))) ((Sub.refl M1).mup hD) (fun r M4=>match r with
   | some y=>M4 D=some (.lst ((S.xs.take i).filterMap f))/\((S.xs.take i).filterMap f++[y]=(S.xs.take (i + 1)).filterMap f/\mup M4 D (.lst ((S.xs.take i).filterMap f++[y]))=mup M1 D (.lst ((S.xs.take i).filterMap f++[y]))/\i + 1<=S.xs.length)
   | none=>(S.xs.take i).filterMap f=(S.xs.take (i + 1)).filterMap f/\M4=mup M1 D (.lst ((S.xs.take i).filterMap f))/\i + 1<=S.xs.length) ?_
  rw [tk]
  cases f x with
  | none=>exact ⟨by simp,rfl,hlt⟩
  | some y=>exact ⟨aS,rfl,gM,hlt⟩
 ·rintro ys M ⟨rfl,rfl,hi⟩
  rw [List.take_length]
  cases o with
  | true=>exact q D hD
  | false=>exact ⟨M1,(Sub.refl M1).mup hD,hD,q⟩
end U2
namespace U2
open PySem PySem.Spec PyProof.Rows L2
theorem B3 {P:Program} {w:World} {K:PySem.W.Frag} {tg:Expr} {ty:String} (z:Str) (t:Tok) (it:Addr)
  (W:∀ A':Around,A'.handled=none->Walks P w A' it [it] [it] z.cps.size (SignAt z) (fun i h=>h.IsStrIter it ty z t i))
  (hty:["enumerate","zip","dict_itemiterator","dict_reverseitemiterator","odict_iterator","itertools.zip_longest","itertools.pairwise"].contains ty=false)
  (self:∀ (A:Around) (i:Nat) (s:Shared) (Q:Value->Shared->Prop) (E:Value->Shared->Prop),s.heap.IsStrIter it ty z t i->Q (.ref it) s->wpAny (model P w) A (pyIter (.ref it)) Q E s) :
  Turn P w K tg (NX z) [it] it (fun i h=>h.IsStrIter it ty z t i) where
 mem:=by simp
 obj:=fun i h st b hb=>by
  have e:b=it:=by simpa using hb
  subst e
  obtain ⟨o,e,c,d⟩:=st
  exact ⟨o,e,fun v z=>by rw [d] at z;cases z⟩
 keep:=fun i h h' st k=>let ⟨o,ho,r⟩:=st;⟨o,k it (by simp) o ho,r⟩
 item:=by
  intro X hP hw hK hc i pins s σ H E I hf st hg
  subst hP hw hK
  obtain ⟨f0,f1,f2,f3,f4,f5⟩:=hf it (by simp)
  refine (W X.A (I.ok.hd hc)).item i s _ E hg st fun v h' tk hv st' k=>?_
  obtain ⟨c,u,hc',rfl⟩:=hv
  have I1:Inv X pins σ H { s with heap:=h',toks:=tk }:=I.turned (t':=tk) (fun b o hb e=>k b o (by simpa using hb) e) f0 f1 f3 f4 f5
  obtain ⟨o,e,cl,d⟩:=id st'
  exact ⟨_,rfl,AM (s:={ s with heap:=h',toks:=tk }) e cl d hty ⟨.str ⟨#[c]⟩,H,I1,⟨_,rfl⟩,⟨rfl,c,hc',rfl⟩,st',fun b hb=>(hf b hb).1⟩⟩
 done:=by
  intro X hP hw hK hc i pins s σ H E I hf st hg
  subst hP hw hK
  have hg':i=z.cps.size:=hg
  subst hg'
  obtain ⟨f0,f1,f2,f3,f4,f5⟩:=hf it (by simp)
  exact (W X.A (I.ok.hd hc)).done s _ E st fun h' tk k=>⟨rfl,I.turned (t':=tk) (fun b o hb e=>k b o (by simpa using hb) e) f0 f1 f3 f4 f5⟩
 self:=self
section
variable {X:Cx} {tg:Expr}
theorem Oa {l:Expr} {tl:TE} (hl:PE X l tl):PI X tg l (O7 X.K tl):=by
 intro pins s σ H R I h
 refine bG (hl pins s σ H _ I h) fun v s1 ⟨x,H1,I1,r1,q1⟩=>?_
 have fp:∀ b∈[s1.heap.objs.size],tG X pins H1 b:=fun b hb=>by
  have e:b=s1.heap.objs.size:=by simpa using hb
  subst e
  exact I1.fpOk (Nat.le_refl _) (I1.hok.fresh (Nat.le_refl _))
 rcases q1 with ⟨a,rfl,⟨xs,hq⟩,q⟩ | ⟨a,rfl,⟨xs,hq⟩,q⟩ | ⟨z,rfl,q⟩
 ·cases r1
  obtain ⟨its,rv,p,hz⟩:=I1.list hq
  refine wpAny_pyIter_list p.isList ?_
  exact ⟨s1.heap.objs.size,[s1.heap.objs.size],_,_,H1,rfl,I1.kept (t':=s1.toks) fun b o e=>Heap.get?_push_of_some _ e,GU a _,⟨_,Heap.get?_push_size _ rfl,rfl,rfl⟩,fp,q⟩
 ·cases r1
  obtain ⟨its,rv,p,hz⟩:=I1.tuple hq
  refine wpAny_pyIter_tuple (show s1.heap.IsTuple a its.toArray from p) ?_
  exact ⟨s1.heap.objs.size,[s1.heap.objs.size],_,_,H1,rfl,I1.kept (t':=s1.toks) fun b o e=>Heap.get?_push_of_some _ e,Ff a _,⟨_,Heap.get?_push_size _ rfl,rfl,rfl⟩,fp,q⟩
 ·obtain ⟨t,rfl⟩:=r1
  cases ha:z.cps.all (· < 128)
  ·refine wpAny_pyIter_wide ha ?_
   exact ⟨s1.heap.objs.size,[s1.heap.objs.size],_,_,H1,rfl,I1.kept (t':=s1.toks) fun b o e=>Heap.get?_push_of_some _ e,
    B3 z t _ (fun A' hA=>Walks.strWide hA _ z t) (by decide) (fun A i s Q E st h=>wpAny_pyIter_striter_wide st h),⟨_,Heap.get?_push_size _ rfl,rfl,rfl⟩,fp,q⟩
  ·refine wpAny_pyIter_ascii ha ?_
   exact ⟨s1.heap.objs.size,[s1.heap.objs.size],_,_,H1,rfl,I1.kept (t':=s1.toks) fun b o e=>Heap.get?_push_of_some _ e,
    B3 z t _ (fun A' hA=>Walks.strAscii hA _ z t) (by decide) (fun A i s Q E st h=>wpAny_pyIter_striter_ascii st h),⟨_,Heap.get?_push_size _ rfl,rfl,rfl⟩,fp,q⟩
end
section
variable {prog:Program} {w:World} {A:Around} {R:Result->Shared->Prop} {s:Shared}
theorem De {elt target iter:Expr} {ifs:List Expr} {scope:Scope} {pos:Pos} {it acc:Value} {env:Env} (I:Nat->Shared->Prop)
  (turn:∀ n s,I n s->wpAny (model prog w) A (pyNext it) (fun r s₁=>match r with
   | none=>R (.ok .next) s₁
   | some v=>wpAny (model prog w) A (letOwnedTupleGo target it v) (fun _ s₀=>wpAny (model prog w) A (assign target env v) (fun _ s₂ =>
     wpAny (model prog w) A (forIn ifs true fun c r=>if r=true then do let ok <- isTrue c env (eval c env);pure (ForInStep.yield ok) else pure (ForInStep.yield r)) (fun ok s₃ =>
      if ok=true then wpAny (model prog w) A (eval elt env) (fun x s₄ =>
       wpAny (model prog w) A (call (.builtin "list.append") [acc,x]) (fun _ s₅=>∃ m,m < n/\I m s₅) (fun _ _=>False) s₄) (fun _ _=>False) s₃
      else ∃ m,m < n/\I m s₃) (fun _ _=>False) s₂) (fun _ _=>False) s₀) (fun _ _=>False) s₁) (fun _ _=>False) s)
  (n:Nat) (h:I n s) :
  codeAny (model prog w) A (.compLoop (.ListComp elt [⟨target,iter,ifs,0⟩] scope pos) 0 it acc env) R s:=by
 refine codeAny_loop rfl I (fun n s hI=>?_) n h
 show wpAny _ A ((compTurn (.ListComp elt [⟨target,iter,ifs,0⟩] scope pos) 0 it acc env).onRaise (fun x=>do noteFrame x env;theTreesLotGoes x)) _ _ s
 refine wpAny_noted ?_
 rw [compTurn_list]
 refine wpAny_bind (wpAny_standAt (wpAny_bind (wpAny_mono (turn n s hI) (fun r s₁ h₁=>?_) fun _ _ h'=>h'.elim)))
 cases r with
 | none=>exact wpAny_pure h₁
 | some v =>
  refine wpAny_bind (wpAny_mono h₁ (fun _ s₀ h₀=>?_) fun _ _ h'=>h'.elim)
  refine wpAny_bind (wpAny_mono h₀ (fun _ s₂ h₂=>wpAny_bind (wpAny_mono h₂ (fun ok s₃ h₃=>?_) fun _ _ h'=>h'.elim)) fun _ _ h'=>h'.elim)
  cases ok with
  | false=>exact wpAny_pure ⟨rfl,h₃⟩
  | true =>
   exact wpAny_bind (wpAny_bind (wpAny_mono h₃ (fun x s₄ h₄=>wpAny_bind (wpAny_mono h₄ (fun _ s₅ h₅=>wpAny_pure (wpAny_pure ⟨rfl,h₅⟩)) fun _ _ h'=>h'.elim)) fun _ _ h'=>h'.elim))
theorem sN {env:Env}:∀ (names:List (Str × NameKind)) (cs:List (Str × Addr)),(∀ x∈names,x.2=.free->∃ c,env.cells.lookup x.1=some c) ->
  (∀ x c,cs.lookup x=some c->env.cells.lookup x=some c) ->
  ∃ cl,(forIn names cs fun (x:Str × NameKind) (cs:List (Str × Addr))=>(if (x.2 == NameKind.free)=true then do let c <- cellOf env x.1;pure (ForInStep.yield ((x.1,c) :: cs)) else pure (ForInStep.yield cs):Sem (ForInStep (List (Str × Addr)))))=pure cl /\
   (∀ x c,cl.lookup x=some c->env.cells.lookup x=some c)/\(∀ x,(∃ c,cs.lookup x=some c)\/(x,NameKind.free)∈names->∃ c,cl.lookup x=some c)
 | [],cs,_,h=>⟨cs,rfl,h,fun x hx=>by rcases hx with hx | hx;exact hx;cases hx⟩
 | (n,k) :: r,cs,hf,h=>by
  rw [List.forIn_cons]
  by_cases hk:k=.free
  ·subst hk
   obtain ⟨c,hc⟩:=hf (n,.free) List.mem_cons_self rfl
   have e:cellOf env n=pure c:=by unfold cellOf;rw [hc]
   simp only [beq_self_eq_true,if_true,e,pure_bind]
   obtain ⟨cl,h1,h2,h3⟩:=sN r ((n,c) :: cs) (fun x hx=>hf x (List.mem_cons_of_mem _ hx)) (fun x d q=>by
    rw [List.lookup_cons] at q
    split at q
    ·rename_i e;cases q;rw [beq_iff_eq.mp e];exact hc
    ·exact h x d q)
   refine ⟨cl,h1,h2,fun x hx=>h3 x ?_⟩
   rcases hx with ⟨d,hd⟩ | hx
   ·left
    rw [List.lookup_cons]
    split
    ·exact ⟨_,rfl⟩
    ·exact ⟨d,hd⟩
   ·rcases List.mem_cons.mp hx with e | hx
    ·left;cases e;exact ⟨c,by simp [List.lookup_cons]⟩
    ·exact .inr hx
  ·have hb:(k == NameKind.free)=false:=by simpa using hk
   simp only [hb,Bool.false_eq_true,if_false,pure_bind]
   obtain ⟨cl,h1,h2,h3⟩:=sN r cs (fun x hx=>hf x (List.mem_cons_of_mem _ hx)) h
   refine ⟨cl,h1,h2,fun x hx=>h3 x ?_⟩
   rcases hx with hx | hx
   ·exact .inl hx
   ·rcases List.mem_cons.mp hx with e | hx
    ·cases e;exact absurd rfl hk
    ·exact .inr hx
theorem tD {env:Env} {scope:Scope} (hf:∀ x∈scope.names,x.2=.free->∃ c,env.cells.lookup x.1=some c) :
  ∃ cl,closureFor scope env=pure cl/\(∀ x c,cl.lookup x=some c->env.cells.lookup x=some c)/\(∀ x,(x,NameKind.free)∈scope.names->∃ c,cl.lookup x=some c):=by
 obtain ⟨cl,h1,h2,h3⟩:=sN (env:=env) scope.names [] hf (fun x c h=>by cases h)
 refine ⟨cl,?_,h2,fun x hx=>h3 x (.inr hx)⟩
 unfold closureFor
 first
  | exact h1
  | (have:_:=h1;simpa using this)
end
def eF (X:Cx) (N:List Str) (scope:Scope) (cl:List (Str × Addr)) (C:Addr) (s:Shared) (H:Hp) (fp:List Addr):Cx where
 prog:=X.prog
 w:=X.w
 K:=X.K
 mg:=X.mg
 base:=X.base
 A:=X.A
 N:=N
 s₀:=s
 H₀:=H
 env:=compEnvC scope cl C X.env
 outer:=X.stack
 stack:=X.stack
 ex:=fp
 fn:=fun _=>false
 calm:=X.calm
 pn:=[]
 xe:=fun _ _=>False
def Dj (X:Cx) (ifs:List Expr) (t:TT):Prop :=
 ∀ (pins:List (Addr × Obj)) (s:Shared) (σ:L2.St) (H:Hp) (Q:Bool->Hp->Prop),Inv X pins σ H s->t σ H Q ->
  wpAny (model X.prog X.w) X.A (forIn ifs true fun c r=>if r=true then do let ok <- isTrue c X.env (eval c X.env);pure (ForInStep.yield ok) else pure (ForInStep.yield r)) (TP X pins σ Q) X.xe s
def OH:TT:=fun _ H Q=>Q true H
theorem LA {X:Cx}:Dj X [] OH:=fun pins s σ H Q I h=>wpAny_tests_nil ⟨H,I,h⟩
theorem Mu {X:Cx} {c:Expr} {t:TT} (h:PT X c t):Dj X [c] t:=fun pins s σ H Q I q=>wpAny_tests_one (h pins s σ H Q I q)
def GK (k:Nat) (g:TG):Prop:=∀ x σ H Q,g x σ H Q->g x σ H (fun σ2 H2=>(∀ j,k<=j->σ2[j]?=σ[j]?)/\Q σ2 H2)
def GA (k:Nat) (g:pU):Prop:=∀ xs σ H Q,g xs σ H Q->g xs σ H (fun σ2 H2=>(∀ j,k<=j->σ2[j]?=σ[j]?)/\Q σ2 H2)
theorem Mb {k i:Nat} (h:i < k):GK k (tF i):=fun x σ H Q q=>⟨fun j hj=>by rw [List.getElem?_set,if_neg (by omega)],q⟩
theorem O9 {k:Nat}:GA k Bk:=fun xs σ H Q q=>⟨q.1,fun j _=>rfl,q.2⟩
theorem MJ {k:Nat} {g:TG} {r:pU} (h1:GK k g) (h2:GA k r) (m2:∀ xs σ H Q Q',(∀ σ2 H2,Q σ2 H2->Q' σ2 H2)->r xs σ H Q->r xs σ H Q') (m1:∀ x σ H Q Q',(∀ σ2 H2,Q σ2 H2->Q' σ2 H2)->g x σ H Q->g x σ H Q'):GA k (xU g r):=fun xs σ H Q q=>by
 obtain ⟨v,r',rfl,q⟩:=q
 refine ⟨v,r',rfl,m1 _ _ _ _ _ (fun σ2 H2 z=>?_) (h1 _ _ _ _ q)⟩
 exact m2 _ _ _ _ _ (fun σ3 H3 y=>⟨fun j hj=>(y.1 j hj).trans (z.1 j hj),y.2⟩) (h2 _ _ _ _ z.2)
theorem OQ {i:Nat}:∀ x σ H (Q Q':L2.St->Hp->Prop),(∀ σ2 H2,Q σ2 H2->Q' σ2 H2)->tF i x σ H Q->tF i x σ H Q':=fun x σ H Q Q' h q=>h _ _ q
theorem QA:∀ xs σ H (Q Q':L2.St->Hp->Prop),(∀ σ2 H2,Q σ2 H2->Q' σ2 H2)->Bk xs σ H Q->Bk xs σ H Q':=fun x σ H Q Q' h q=>⟨q.1,h _ _ q.2⟩
theorem O6 {g:TG} {r:pU} (m1:∀ x σ H Q Q',(∀ σ2 H2,Q σ2 H2->Q' σ2 H2)->g x σ H Q->g x σ H Q') (m2:∀ xs σ H Q Q',(∀ σ2 H2,Q σ2 H2->Q' σ2 H2)->r xs σ H Q->r xs σ H Q') :
  ∀ xs σ H (Q Q':L2.St->Hp->Prop),(∀ σ2 H2,Q σ2 H2->Q' σ2 H2)->xU g r xs σ H Q->xU g r xs σ H Q':=fun xs σ H Q Q' h q=>by
 obtain ⟨v,r',rfl,q⟩:=q
 exact ⟨v,r',rfl,m1 _ _ _ _ _ (fun σ2 H2 z=>m2 _ _ _ _ _ h z) q⟩
theorem Od {K:PySem.W.Frag} {k n:Nat} {r:pU} (h:GA k r):GK k (A4 K n r):=fun x σ H Q q=>by
 obtain ⟨a,xs,rfl,h1,h2,q⟩:=q
 exact ⟨a,xs,rfl,h1,h2,h _ _ _ _ q⟩
theorem P6 {K:PySem.W.Frag} {n:Nat} {r:pU} (m2:∀ xs σ H Q Q',(∀ σ2 H2,Q σ2 H2->Q' σ2 H2)->r xs σ H Q->r xs σ H Q') :
  ∀ x σ H (Q Q':L2.St->Hp->Prop),(∀ σ2 H2,Q σ2 H2->Q' σ2 H2)->A4 K n r x σ H Q->A4 K n r x σ H Q':=fun x σ H Q Q' h q=>by
 obtain ⟨a,xs,rfl,h1,h2,q⟩:=q
 exact ⟨a,xs,rfl,h1,h2,m2 _ _ _ _ _ h q⟩
theorem zY {X:Cx} {tg elt iter:Expr} {ifs:List Expr} {scope:Scope} {pos:Pos} {N:List Str} {k:Nat} {ix:List Nat} {wi:TI} {g:TG} {tc:TT} {te:TE}
  (hc:X.calm=true) (hi:PI X tg iter wi) (gk:GK k g)
  (hk:scope.kind=.function) (hcell:∀ y∈scope.names,y.2≠.cell) (hnames:∀ y∈scope.names,y.2=.local->scope.names.lookup y.1=some .local)
  (hfree:∀ y∈scope.names,y.2=.free->X.env.kindOf y.1=some .cell\/X.env.kindOf y.1=some .free)
  (hone:∀ y∈scope.names,y.2=.free->scope.names.lookup y.1=some .free)
  (hN:∀ (j:Nat) x,N[k + j]?=some x->∃ i,ix[j]?=some i/\X.N[i]?=some x)
  (hcap:∀ (j:Nat) x,N[k + j]?=some x->scope.names.lookup x=some .free)
  (hlen:N.length=k + ix.length)
  (hg:∀ cl C s H fp,PG (eF X N scope cl C s H fp) tg g)
  (hif:∀ cl C s H fp,Dj (eF X N scope cl C s H fp) ifs tc)
  (he:∀ cl C s H fp,PE (eF X N scope cl C s H fp) elt te)
  (hs:∀ x,foldedSetIterable iter X.env x=pure x) {pins:List (Addr × Obj)} {s:Shared} {σ:L2.St} {H:Hp} {Q:VK} (I:L2.Inv X pins σ H s) (h:AK k ix wi g tc te σ H Q) {pos':Pos} {use:Option (Value->Sem Unit)} {QQ:Value->Shared->Prop}
  (end_:∀ (D C:Addr) (H3:Hp) (s4:Shared),L2.Inv X pins σ H3 s4->(∃ m,s4.heap.Ns C m)->H3 C=none->C≠X.env.locals->X.s₀.heap.objs.size<=C->(∀ x c,X.env.cells.lookup x=some c->c≠C)->(∀ p∈X.pn++pins,p.1≠C) ->
   (∀ h':Heap,Heap.SameBut C s4.heap h'->L2.Inv X pins σ H3 { s4 with heap:=h' })->Q (.ref D) H3->compPost (model X.prog X.w) X.A X.xe use QQ (.ref D) C (.ok .next) s4) :
  wpAny (model X.prog X.w) X.A (comprehension (.ListComp elt [⟨tg,iter,ifs,0⟩] scope pos) scope X.env pos' (newList []) false (eval iter X.env) use) QQ X.xe s:=by
 obtain ⟨cl,hclos,hcl,hcl2⟩:=tD (env:=X.env) (scope:=scope) (fun x hx e=>I.ok.has x.1 (hfree x hx e))
 refine wpAny_comprehension_free (use:=use) rfl hs hclos hk hnames (bG (hi pins s σ H _ I h) fun v s1 h1=>bG h1 fun itv s2 h2=>?_)
 obtain ⟨it,fp,tn,J,H2,rfl,I2,T,st2,f2,h2⟩:=h2
 refine wpAny_newObj_type (wpAny_newFunctionEnv hcell (by intro y hy;simp at hy) (fun h₁ hns₁ hsb₁=>?_) hk)
 dsimp only at hns₁ hsb₁ ⊢
 generalize hP:s2.heap.push { cls:=.type "list",dict:=none,data:=.seq ([]:List Value).toArray }=P2 at hns₁ hsb₁ ⊢
 have hCs:P2.objs.size=s2.heap.objs.size + 1:=by rw [<- hP,Heap.size_push]
 have below:∀ b,b < s2.heap.objs.size->b≠P2.objs.size:=fun b hb=>by rw [hCs];omega
 have old:∀ b o,s2.heap.get? b=some o->h₁.get? b=some o:=fun b o e=>hsb₁.extBut b o (below b (Heap.lt_size e)) (Heap.get?_push_of_some _ (hP ▸ Heap.get?_push_of_some _ e))
 have hacc:h₁.get? s2.heap.objs.size=some { cls:=.type "list",dict:=none,data:=.seq ([]:List Value).toArray }:=hsb₁.extBut _ _ (show s2.heap.objs.size≠P2.objs.size by rw [hCs];exact Nat.ne_of_lt (Nat.lt_succ_self _)) (Heap.get?_push_of_some _ (hP ▸ Heap.get?_push_size _ rfl))
 obtain ⟨W,⟨m0,w0⟩,turn⟩:=h2 s2.heap.objs.size (I2.hok.fresh (Nat.le_refl _))
 have fpl:∀ b∈fp,b < s2.heap.objs.size:=fun b hb=>let ⟨o,e,_⟩:=T.obj _ _ st2 b hb;Heap.lt_size e
 have σl:(eJ k ix σ).length=N.length:=by rw [hlen];simp [eJ]
 have i2:=I2.ok
 have ok':(eF X N scope cl P2.objs.size s2 H2 fp).Ok:=by
  refine ⟨i2.mod,hk,i2.glob,i2.blt,(by show s2.heap.objs.size<=P2.objs.size;rw [hCs];exact Nat.le_succ _),fun x y c e1 e2=>i2.inj x y c (hcl x c e1) (hcl y c e2),fun x hx=>?_,(fun x c e=>by cases e),i2.hd,i2.frames,.inl rfl,fun b hb=>?_,fun b o e=>I2.bs b o e,Nat.le_trans i2.bsz I2.sz,fun b o e hb=>?_,fun b hb hb2=>?_,I2.stack,I2.stkFree⟩
  ·
   have hx':(relabel scope X.env).names.lookup x=some .cell\/(relabel scope X.env).names.lookup x=some .free:=hx
   have key:∀ (names:List (Str × NameKind)),(∀ y∈names,y.2≠.cell)->((names.map fun (n,k)=>if (k == NameKind.free && X.env.scope.kind == .function && X.env.kindOf n == some .cell) then (n,NameKind.cell) else (n,k)).lookup x=some .cell \/
     (names.map fun (n,k)=>if (k == NameKind.free && X.env.scope.kind == .function && X.env.kindOf n == some .cell) then (n,NameKind.cell) else (n,k)).lookup x=some .free)->(x,NameKind.free)∈names:=by
    intro names
    induction names with
    | nil=>intro _ h;rcases h with h | h <;> cases h
    | cons y r ih =>
     obtain ⟨n,kd⟩:=y
     intro hnc h
     by_cases hxn:x=n
     ·subst hxn
      have hkc:kd≠.cell:=hnc (x,kd) List.mem_cons_self
      by_cases hkf:kd=.free
      ·subst hkf;exact List.mem_cons_self
      ·exfalso
       have hb:(kd == NameKind.free)=false:=by simpa using hkf
       simp only [List.map_cons,hb,Bool.false_and,Bool.false_eq_true,if_false,List.lookup_cons,beq_self_eq_true] at h
       rcases h with h | h
       ·exact hkc (Option.some.inj h)
       ·exact hkf (Option.some.inj h)
     ·have hb:(x == n)=false:=by simpa using hxn
      refine List.mem_cons_of_mem _ (ih (fun y hy=>hnc y (List.mem_cons_of_mem _ hy)) ?_)
      have e1:∀ z:NameKind,List.lookup x (((n,z)) :: (r.map fun (n,k)=>if (k == NameKind.free && X.env.scope.kind == .function && X.env.kindOf n == some .cell) then (n,NameKind.cell) else (n,k)))=List.lookup x (r.map fun (n,k)=>if (k == NameKind.free && X.env.scope.kind == .function && X.env.kindOf n == some .cell) then (n,NameKind.cell) else (n,k)):=fun z=>by rw [List.lookup_cons,hb]
      rw [List.map_cons] at h
      dsimp only at h
      split at h
      ·rw [e1] at h;exact h
      ·rw [e1] at h;exact h
   exact hcl2 x (key scope.names hcell hx')
  ·exact ⟨below b (fpl b hb),fun x c e=>(f2 b hb).2.2.2.2.1 x c (hcl x c e)⟩
  ·rcases (f2 b hb).2.2.2.1 with z | z
   ·exact i2.noex b o e z
   ·exact absurd (Nat.lt_of_lt_of_le (Heap.lt_size e) (Nat.le_trans i2.bsz z)) (Nat.lt_irrefl _)
  ·rcases List.mem_cons.mp (I2.stkSub b hb2) with z | z
   ·exact (f2 b hb).2.1 z
   ·exact (f2 b hb).2.2.1 z
 have stat:∀ {H':Hp},(∀ b∈fp,H' b=none)->∀ b∈fp,tG (eF X N scope cl P2.objs.size s2 H2 fp) [] H' b:=fun hn b hb =>
  ⟨hn b hb,below b (fpl b hb),fun z=>ok'.exfs b hb z,.inl hb,fun x c e=>(f2 b hb).2.2.2.2.1 x c (hcl x c e),(fun p hp=>by cases hp)⟩
 have hD:H2 s2.heap.objs.size=none:=I2.hok.fresh (Nat.le_refl _)
 have relf:∀ x,scope.names.lookup x=some .free->(X.env.kindOf x=some .cell\/X.env.kindOf x=some .free)->((relabel scope X.env).names.lookup x=some .cell\/(relabel scope X.env).names.lookup x=some .free):=by
  intro x hx hkx
  have key:∀ (names:List (Str × NameKind)),names.lookup x=some .free->((names.map fun (n,k)=>if (k == NameKind.free && X.env.scope.kind == .function && X.env.kindOf n == some .cell) then (n,NameKind.cell) else (n,k)).lookup x=some .cell \/
    (names.map fun (n,k)=>if (k == NameKind.free && X.env.scope.kind == .function && X.env.kindOf n == some .cell) then (n,NameKind.cell) else (n,k)).lookup x=some .free):=by
   intro names
   induction names with
   | nil=>intro h;cases h
   | cons y r ih =>
    obtain ⟨n,kd⟩:=y
    intro h
    rw [List.lookup_cons] at h
    by_cases hxn:x=n
    ·subst hxn
     simp only [beq_self_eq_true] at h
     cases h
     rw [List.map_cons]
     dsimp only
     split
     ·left;simp [List.lookup_cons]
     ·right;simp [List.lookup_cons]
    ·have hb:(x == n)=false:=by simpa using hxn
     rw [hb] at h
     have:=ih h
     rw [List.map_cons]
     dsimp only
     split
     ·rw [List.lookup_cons,hb];exact this
     ·rw [List.lookup_cons,hb];exact this
  exact key scope.names hx
 have Istart:∀ tk,Inv (eF X N scope cl P2.objs.size s2 H2 fp) [] (eJ k ix σ) (upd H2 s2.heap.objs.size (.lst [])) { s2 with heap:=h₁,toks:=tk }:=fun tk=>by
  refine ⟨ok',rfl,I2.bare,Un.laid old (Nat.le_refl _) hD,⟨_,hns₁,fun i x v e1 e2 e3=>?_⟩,fun x c e=>?_,?_,fun x c e=>?_,(fun p hp=>by cases hp),I2.hok.laid old (Nat.le_refl _) ⟨Nat.zero_le _,[],_,.nil,hacc⟩,σl⟩
  ·by_cases hik:i < k
   ·exfalso
    unfold eJ at e2
    rw [List.getElem?_append_left (by simpa using hik),List.getElem?_replicate] at e2
    split at e2 <;> cases e2
   ·have ej:i=k + (i - k):=by omega
    have e1':N[k + (i - k)]?=some x:=by rw [<- ej];exact e1
    obtain ⟨i0,hi0,hXN⟩:=hN (i - k) x e1'
    have hfx:=hcap (i - k) x e1'
    have hmem:(x,NameKind.free)∈scope.names:=PySem.mem_of_lookup hfx
    have hkx:=hfree _ hmem rfl
    have e4:σ[i0]?=some (some v):=by
     unfold eJ at e2
     rw [List.getElem?_append_right (by simpa using Nat.le_of_not_lt hik),List.getElem?_map] at e2
     simp only [List.length_replicate,hi0,Option.map_some,Option.some.injEq] at e2
     cases z:σ[i0]? with
     | none=>rw [z] at e2;cases e2
     | some y=>rw [z] at e2;simp only [Option.getD_some] at e2;rw [e2]
    obtain ⟨m2,hn2,hl2⟩:=I2.loc
    obtain ⟨u,ru,lk⟩:=hl2 i0 x v hXN e4 (by rcases hkx with z | z;exact .inr (.inl z);exact .inr (.inr z))
    rcases lk with ⟨z,_⟩ | ⟨_,c,hc1,hc2⟩
    ·exfalso
     have z':X.env.kindOf x=some .local:=z
     rcases hkx with y | y <;> (rw [z'] at y;cases y)
    ·obtain ⟨c',hc'⟩:=hcl2 x hmem
     have e5:=hcl x c' hc'
     rw [hc1] at e5;cases e5
     obtain ⟨o,ho,hd⟩:=hc2
     exact ⟨u,ru,.inr ⟨relf x hfx hkx,c,hc',o,old _ _ ho,hd⟩⟩
  ·obtain ⟨v,o,ho,hd⟩:=I2.cell x c (hcl x c e)
   exact ⟨v,o,old _ _ ho,hd⟩
  ·show upd H2 s2.heap.objs.size (.lst []) P2.objs.size=none
   rw [bL (show P2.objs.size≠s2.heap.objs.size by rw [hCs];exact Nat.succ_ne_self _)]
   exact I2.hok.fresh (show s2.heap.objs.size<=P2.objs.size by rw [hCs];exact Nat.le_succ _)
  ·have e':=hcl x c e
   obtain ⟨v,o,ho,hd⟩:=I2.cell x c e'
   rw [bL (Nat.ne_of_lt (Heap.lt_size ho))]
   exact I2.freeC x c e'
 have st1:tn 0 h₁:=T.keep 0 _ _ st2 fun b hb o e=>old b o e
 have fr1:∀ b∈fp,upd H2 s2.heap.objs.size (.lst []) b=none:=fun b hb=>by rw [bL (Nat.ne_of_lt (fpl b hb))];exact (f2 b hb).1
 have fin:∀ (H3:Hp) (s4:Shared),Inv (eF X N scope cl P2.objs.size s2 H2 fp) [] (eJ k ix σ) H3 s4->∀ h':Heap,Heap.SameBut P2.objs.size s4.heap h'->Inv X pins σ H3 { s4 with heap:=h' }:=fun H3 s4 I4 h' sb=>by
  have kp:∀ b o,b < s2.heap.objs.size->s4.heap.get? b=some o->h'.get? b=some o:=fun b o hb e=>sb.extBut b o (below b hb) e
  have u:Un (i9 X.stack) fp H2 H3 s2.heap s4.heap:=I4.base
  refine I2.call' (ch:=fp) (H':=H3) I4.os ⟨fun b o q n hb hx=>kp b o (Heap.lt_size q) (u.keep b o q n hb hx),fun b o q n hb hx=>?_,u.free,fun b o q hx=>?_,u.tups,u.frzs,u.tbls⟩ (fun a o e=>?_) I4.bare fun b hb=>⟨(f2 b hb).2.2.2.1,(f2 b hb).2.1,(f2 b hb).2.2.2.2.1,(f2 b hb).2.2.2.2.2⟩
  ·obtain ⟨sl,e⟩:=u.slot b o q n hb hx
   exact ⟨sl,kp b _ (Heap.lt_size q) e⟩
  ·obtain ⟨o',e⟩:=u.there b o q hx
   exact ⟨o',kp b _ (Heap.lt_size q) e⟩
  ·have nC:H3 P2.objs.size=none:=I4.free
   refine (I4.hok a o e).stay (fun b z hb q=>sb.extBut b z ?_ q) (fun _ q=>q) fun _ _ q=>q
   rcases hb with rfl | hb
   ·exact cN e nC
   ·exact cN hb nC
 have loop:∀ tk,codeAny (model X.prog X.w) X.A (.compLoop (.ListComp elt [⟨tg,iter,ifs,0⟩] scope pos) 0 (.ref it) (.ref s2.heap.objs.size) (compEnvC scope cl P2.objs.size X.env))
   (compPost (model X.prog X.w) X.A X.xe use QQ (.ref s2.heap.objs.size) P2.objs.size) { s2 with heap:=h₁,toks:=tk }:=fun tk=>by
  refine De (fun n s'=>∃ i H',Inv (eF X N scope cl P2.objs.size s2 H2 fp) [] (eJ k ix σ) H' s'/\tn i s'.heap/\(∀ b∈fp,H' b=none)/\W i n H') ?_ m0 ⟨0,_,Istart tk,st1,fr1,w0⟩
  rintro n s3 ⟨i,H3,I3,st3,fr3,w3⟩
  rcases turn i n H3 w3 with ⟨stop,q⟩ | ⟨go,step⟩
  ·refine bG (T.done (eF X N scope cl P2.objs.size s2 H2 fp) rfl rfl rfl hc i [] s3 _ H3 (fun _ _=>False) I3 (stat fr3) st3 stop) fun r s4 ⟨hr,I4⟩=>?_
   subst hr
   obtain ⟨m,hn,_⟩:=I4.loc
   refine end_ s2.heap.objs.size P2.objs.size H3 s4 (fin H3 s4 I4 s4.heap (Heap.SameBut.refl ..)) ⟨m,hn⟩ I4.free (Ne.symm (below _ I2.lt)) (Nat.le_trans I2.sz (show s2.heap.objs.size<=P2.objs.size by rw [hCs];exact Nat.le_succ _)) (fun x c e=>?_) (fun p hp=>below _ (Heap.lt_size (I2.pin p hp).1)) (fin H3 s4 I4) q
   obtain ⟨v,o,ho,_⟩:=I2.cell x c e
   exact below _ (Heap.lt_size ho)
  ·refine bG (T.item (eF X N scope cl P2.objs.size s2 H2 fp) rfl rfl rfl hc i [] s3 _ H3 (fun _ _=>False) I3 (stat fr3) st3 go) fun r s4 ⟨u,hr,h4⟩=>?_
   subst hr
   refine bG h4 fun _ s5 ⟨x,H5,I5,r5,y5,st5,fr5⟩=>?_
   have I5':=I5.pinned (stat fr5) (T.obj _ _ st5)
   refine bG (hg cl P2.objs.size s2 H2 fp _ s5 _ H5 x u _ I5' r5 (gk _ _ _ _ (step x H5 y5))) fun _ s6 ⟨σ6,H6,I6,ag,q6⟩=>?_
   have again:∀ {s7:Shared} {H7:Hp} {m':Nat},Inv (eF X N scope cl P2.objs.size s2 H2 fp) ([]++uQ fp s5.heap) σ6 H7 s7->m' < n->W (i + 1) m' H7->∃ m,m < n/\∃ i H',Inv (eF X N scope cl P2.objs.size s2 H2 fp) [] (eJ k ix σ) H' s7/\tn i s7.heap/\(∀ b∈fp,H' b=none)/\W i m H':=fun {s7 H7 m'} I7 hm w7=>by
    refine ⟨m',hm,i + 1,H7,(I7.unpinned).weak (by rw [σl];exact (I7.len).symm) (fun j v e=>?_),T.keep _ _ _ st5 fun b hb o e=>(I7.pin (b,o) (List.mem_append_right _ (List.mem_append_right _ (o9 hb e)))).1,fun b hb=>?_,w7⟩
    ·by_cases hj:j < k
     ·exfalso
      unfold eJ at e
      rw [List.getElem?_append_left (by simpa using hj),List.getElem?_replicate] at e
      split at e <;> cases e
     ·rw [ag j (by omega)];exact e
    ·obtain ⟨o,e,d⟩:=T.obj _ _ st5 b hb
     exact (I7.pin (b,o) (List.mem_append_right _ (List.mem_append_right _ (o9 hb e)))).2.1
   refine bG (hif cl P2.objs.size s2 H2 fp _ s6 σ6 H6 _ I6 q6) fun ok s7 ⟨H7,I7,q7⟩=>?_
   cases ok with
   | false =>
    obtain ⟨m',hm,w7⟩:=q7
    exact again I7 hm w7
   | true =>
    refine bG (he cl P2.objs.size s2 H2 fp _ s7 σ6 H7 _ I7 q7) fun y s8 ⟨yv,H8,I8,r8,ys,hD8,hz8,m',hm,w8⟩=>?_
    refine bG (Ac _ s8 σ6 H8 (.ref s2.heap.objs.size) [yv] (.ref s2.heap.objs.size) [y] (fun v H9=>H9=upd H8 s2.heap.objs.size (.lst (ys++[yv]))) I8 rfl (.cons r8 .nil) ⟨_,ys,yv,rfl,rfl,hD8,hz8,rfl⟩) fun _ s9 ⟨_,H9,I9,_,e9⟩=>?_
    subst e9
    exact again I9 hm w8
 exact codeAny_compStart_list (loop _) (T.self _ 0 _ _ _ st1 (loop _))
theorem M8 {X:Cx} {tg elt iter:Expr} {ifs:List Expr} {scope:Scope} {pos:Pos} {N:List Str} {k:Nat} {ix:List Nat} {wi:TI} {g:TG} {tc:TT} {te:TE}
  (hc:X.calm=true) (hi:PI X tg iter wi) (gk:GK k g)
  (hk:scope.kind=.function) (hcell:∀ y∈scope.names,y.2≠.cell) (hnames:∀ y∈scope.names,y.2=.local->scope.names.lookup y.1=some .local)
  (hfree:∀ y∈scope.names,y.2=.free->X.env.kindOf y.1=some .cell\/X.env.kindOf y.1=some .free)
  (hone:∀ y∈scope.names,y.2=.free->scope.names.lookup y.1=some .free)
  (hN:∀ (j:Nat) x,N[k + j]?=some x->∃ i,ix[j]?=some i/\X.N[i]?=some x)
  (hcap:∀ (j:Nat) x,N[k + j]?=some x->scope.names.lookup x=some .free)
  (hlen:N.length=k + ix.length)
  (hg:∀ cl C s H fp,PG (eF X N scope cl C s H fp) tg g)
  (hif:∀ cl C s H fp,Dj (eF X N scope cl C s H fp) ifs tc)
  (he:∀ cl C s H fp,PE (eF X N scope cl C s H fp) elt te)
  (hs:∀ x,foldedSetIterable iter X.env x=pure x:=by intro _;rfl) :
  PE X (.ListComp elt [⟨tg,iter,ifs,0⟩] scope pos) (AK k ix wi g tc te):=by
 intro pins s σ H Q I h
 rw [eval_ListComp]
 refine zY (use:=none) hc hi gk hk hcell hnames hfree hone hN hcap hlen hg hif he hs I h fun D C H3 s4 I4 ⟨m,hn⟩ _ _ _ _ _ fin q=>?_
 exact ⟨m,hn,fun h' sb=>⟨.ref D,H3,fin h' sb,rfl,q⟩⟩
theorem MU {X:Cx} {tg elt iter:Expr} {ifs:List Expr} {scope:Scope} {pos spos py:Pos} {N:List Str} {k:Nat} {ix:List Nat} {wi:TI} {g:TG} {tc:TT} {te:TE} {i:Nat} {y:Str}
  (hc:X.calm=true) (hi:PI X tg iter wi) (gk:GK k g)
  (hk:scope.kind=.function) (hcell:∀ y∈scope.names,y.2≠.cell) (hnames:∀ y∈scope.names,y.2=.local->scope.names.lookup y.1=some .local)
  (hfree:∀ y∈scope.names,y.2=.free->X.env.kindOf y.1=some .cell\/X.env.kindOf y.1=some .free)
  (hone:∀ y∈scope.names,y.2=.free->scope.names.lookup y.1=some .free)
  (hN:∀ (j:Nat) x,N[k + j]?=some x->∃ i,ix[j]?=some i/\X.N[i]?=some x)
  (hcap:∀ (j:Nat) x,N[k + j]?=some x->scope.names.lookup x=some .free)
  (hlen:N.length=k + ix.length)
  (hg:∀ cl C s H fp,PG (eF X N scope cl C s H fp) tg g)
  (hif:∀ cl C s H fp,Dj (eF X N scope cl C s H fp) ifs tc)
  (he:∀ cl C s H fp,PE (eF X N scope cl C s H fp) elt te)
  (hs:∀ x,foldedSetIterable iter X.env x=pure x) (hsw:swapsWith (.ListComp elt [⟨tg,iter,ifs,0⟩] scope pos) (some (.Name y py)) spos.line X.env=pure true)
  (hNd:X.N.Nodup) (hiy:X.N[i]?=some y) (hy:Loc X.env.scope y) (hf:X.fn y=true\/X.env.scope.names.lookup y=some .local) :
  PS X (.Assign [.Name y py] (.ListComp elt [⟨tg,iter,ifs,0⟩] scope pos) spos) (Jt (AK k ix wi g tc te) (tF i)):=by
 intro pins s σ H D I h
 rw [exec_Assign_Name_used _ _ _ _ hsw]
 refine wpAny_bind (wpAny_standAt (wpAny_bind ?_))
 show wpAny _ X.A (do let _ <- comprehension (.ListComp elt [⟨tg,iter,ifs,0⟩] scope pos) scope X.env _ (newList []) false (eval iter X.env) (some (assign (.Name y py) X.env))) _ _ s
 refine wpAny_bind (wpAny_mono (zY (use:=some (assign (.Name y py) X.env)) (QQ:=fun _ s'=>SP X pins D .next s') hc hi gk hk hcell hnames hfree hone hN hcap hlen hg hif he hs I h fun A C H3 s4 I4 hn nC nL sC cC pC fin q=>?_) (fun _ s' hq=>wpAny_pure (wpAny_pure hq)) fun _ _ e=>e)
 show wpAny _ X.A (assign (.Name y py) X.env (.ref A)) _ _ _
 refine wpAny_assign_Name (zS (i:=i) (v:=.ref A) I4 hNd hiy hy rfl (fun s5 I5 ⟨a,sb,ha⟩=>?_) hf)
 obtain ⟨m,hn⟩:=hn
 have aC:C≠a:=by
  rcases ha with z | z
  ·rw [z];exact nL
  ·exact fun e=>cC y a z e.symm
 refine ⟨m,hn.at' fun o e=>sb.extBut C o aC e,fun h' sb'=>?_⟩
 exact ⟨_,H3,I5.turned (t':=s5.toks) (fun b o hb e=>sb'.extBut b o hb e) nC nL (.inr sC) cC pC,q⟩
section
variable {X:Cx}
theorem MY:dG X (binaryOp .Add) (Ft X.K):=by
 intro pins s σ H x y v u Q I rx ry h
 obtain ⟨l,b,xs,zs,rfl,rfl,hH,hB,hz,q⟩:=h
 cases rx
 cases ry
 obtain ⟨its,r,p,hl⟩:=I.list hH
 obtain ⟨its2,r2,p2,hl2⟩:=I.list hB
 obtain ⟨⟨cls,dd,data,sl⟩,n,ho,hc,_,hd⟩:=p
 obtain ⟨⟨cls2,dd2,data2,sl2⟩,n2,ho2,hc2,_,hd2⟩:=p2
 simp only at hc hd hc2 hd2
 subst hc hd hc2 hd2
 have q1:=r.length
 have q2:=r2.length
 have e:its.toArray++its2.toArray=(its++its2).toArray:=by simp
 refine concat_meets ⟨_,ho,rfl⟩ ⟨_,ho2,rfl⟩ noFill_list_add seq_list_add PySem.F.slot_list_add PySem.F.entry_list_add (PySem.F.args_list_add_2 _ _) (list_addW l b its.toArray its2.toArray n n2 dd dd2 sl sl2 (by rw [List.size_toArray,List.size_toArray];omega)) ⟨ho,ho2,?_⟩
 rw [e]
 exact ⟨.ref _,_,I.lnew (t':=s.toks) (r.append r2) (by rw [List.length_append];omega),rfl,q _ I.fresh⟩
theorem JL:dG X (binaryOp .Add) (A0 X.K):=by
 intro pins s σ H x y v u Q I rx ry h
 obtain ⟨a,b,xs,ys,rfl,rfl,ha,hb,hz,q0,q1,q2⟩:=h
 by_cases hx:xs=[]
 ·cases rx
  cases ry
  obtain ⟨its,r1,p1,_⟩:=I.tuple ha
  obtain ⟨its2,r2,p2,_⟩:=I.tuple hb
  obtain ⟨⟨cls,dd,data,sl⟩,ho,hc,n,hd⟩:=p1
  obtain ⟨⟨cls2,dd2,data2,sl2⟩,ho2,hc2,n2,hd2⟩:=p2
  simp only at hc hd hc2 hd2
  subst hc hd hc2 hd2
  have e:its=[]:=r1.nil_iff.mpr hx
  exact concat_meets ⟨_,ho,rfl⟩ ⟨_,ho2,rfl⟩ noFill_tuple_add seq_tuple_add PySem.F.slot_tuple_add PySem.F.entry_tuple_add (PySem.F.args_tuple_add_2 _ _) (tuple_addW0 a b its.toArray its2.toArray n n2 dd dd2 sl sl2 (by rw [e];rfl)) ⟨ho,ho2,.ref b,H,I,rfl,q0 hx⟩
 ·exact MG pins s σ H _ _ v u Q I rx ry ⟨a,b,xs,ys,rfl,rfl,ha,hb,hx,hz,q1 hx,q2 hx⟩
theorem N0:vK X (fun x lo hi H Q=>∃ z:Str,x=.str z/\z.length<=sizeLine/\Q (.str (Txt.slice z lo hi)) H):=by
 intro pins s σ H x v vl vu lo hi sl Q I rx hs pl pu h
 obtain ⟨z,rfl,hz,q⟩:=h
 obtain ⟨t,rfl⟩:=rx
 refine ⟨"str",_,F.slot_str_getitem.lookup,typeIs_str _ _ _,?_⟩
 have fin:∀ t' k,EP X pins σ Q (.str (Txt.slice z lo hi) t') { s with toks:=k }:=fun t' k=>⟨.str (Txt.slice z lo hi),H,I.tok k,⟨t',rfl⟩,q⟩
 cases pl with
 | none=>cases pu with
  | none=>exact wpAny_getItem_str_slice (l:=none) (u:=none) (st:=none) hs rfl (post_val_or_str ⟨Nat.le_trans (Txt.slice_le z _ _) hz,fun t' k=>fin t' k⟩)
  | int j uj=>exact wpAny_getItem_str_slice (l:=none) (u:=some (j,uj)) (st:=none) hs rfl (post_val_or_str ⟨Nat.le_trans (Txt.slice_le z _ _) hz,fun t' k=>fin t' k⟩)
 | int i ui=>cases pu with
  | none=>exact wpAny_getItem_str_slice (l:=some (i,ui)) (u:=none) (st:=none) hs rfl (post_val_or_str ⟨Nat.le_trans (Txt.slice_le z _ _) hz,fun t' k=>fin t' k⟩)
  | int j uj=>exact wpAny_getItem_str_slice (l:=some (i,ui)) (u:=some (j,uj)) (st:=none) hs rfl (post_val_or_str ⟨Nat.le_trans (Txt.slice_le z _ _) hz,fun t' k=>fin t' k⟩)
theorem Oy:vK X (N1 X.K):=Nx.or (Pf.or N0)
theorem Gw (hc:X.calm=true):iB X (.builtin "all") (fun xs H Q=>∃ (p:Addr) (bs:List Bool),xs=[.ref p]/\eO X.K H p (bs.map V.bl)/\Q (.bl (bs.all fun b=>b)) H):=by
 intro pins s σ H xs us Q I r h
 obtain ⟨a,bs,rfl,ha,q⟩:=h
 obtain ⟨u,rfl,ru⟩:=vals1 r
 cases ru
 obtain ⟨its,rv,p,hz⟩:=I.list ha
 have hl:=rv.length
 have hne:a≠s.heap.objs.size:=by
  obtain ⟨o,n,e,_⟩:=p
  exact Nat.ne_of_lt (Heap.lt_size e)
 refine call_all_walk (wpAny_pyIter_list p.isList ?_)
 refine ⟨s.heap.objs.size,_,_,_,_,_,fun i=>(bs[i]?).getD false,rfl,Walks.list (show X.A.in1.handled=none from I.ok.hd hc) s.heap.objs.size a hne its.toArray,⟨⟨_,Heap.get?_push_size _ rfl,rfl,rfl⟩,?_⟩,?_,fun h' tk k=>?_⟩
 ·obtain ⟨o,n,e,c,d,z⟩:=p
  exact ⟨o,Heap.get?_push_of_some _ e,c,n,z⟩
 ·intro i v s' Q' E' hP hQ
  have hv:its[i]?=some v:=by simpa using hP
  have hi:i < bs.length:=by
   have:=(List.getElem?_eq_some_iff.mp hv).1
   rw [<- hl] at this;simpa using this
  obtain ⟨u,hu,ru⟩:=rv.get (i:=i) (x:=.bl bs[i]) (by simp [hi])
  rw [hv] at hu;cases hu
  cases ru
  refine wpAny_truthy_bool ?_
  have:(bs[i]?).getD false=bs[i]:=by simp [hi]
  rw [<- this];exact hQ
 ·have e:(List.range its.toArray.size).all (fun i=>(bs[i]?).getD false)=bs.all fun b=>b:=by
   have:its.toArray.size=bs.length:=by rw [List.size_toArray,<- hl,List.length_map]
   rw [this]
   clear this hl rv p hz k
   rw [Bool.eq_iff_iff]
   simp only [List.all_eq_true,List.mem_range]
   constructor
   ·intro h b hb
    obtain ⟨i,hi,rfl⟩:=List.mem_iff_getElem.mp hb
    have:=h i hi
    simpa [hi] using this
   ·intro h i hi
    have:=h bs[i] (List.getElem_mem hi)
    simpa [hi] using this
  rw [e]
  exact ⟨.bl _,H,I.kept (t':=tk) (fun b o e=>k b o (fun z=>Nat.lt_irrefl _ (Nat.lt_of_lt_of_le (Heap.lt_size e) (Nat.le_of_eq (show s.heap.objs.size=b from (List.mem_singleton.mp z).symm)))) (Heap.get?_push_of_some _ e)),rfl,q⟩
end
end U2
namespace U2
open PySem PySem.Spec PyProof.Rows L2
structure Dat where
 prog:Program
 w:World
 K:PySem.W.Frag
 mg:Str->Option Value
 base:Heap
 N:List Str
 sc:Scope
 k:Nat
 fn:Bool
 cod:Value:=.none
 qual:Str:=""
structure lW (D:Dat) (X:Cx):Prop where
 prog:X.prog=D.prog
 w:X.w=D.w
 K:X.K=D.K
 mg:X.mg=D.mg
 base:X.base=D.base
 N:X.N=D.N
 sc:X.env.scope=D.sc
 room:fT D.k X.A
 calm:X.calm=true
 xe:X.xe=fun _ _=>False
 fn:D.fn=true->∀ x,X.fn x=true
 cod:D.cod≠.none->X.env.code=D.cod/\X.env.qual=D.qual
 dl:D.fn=true->X.ex=[]/\X.stack=X.env :: X.outer/\X.env.frame=some X.env.locals
def aV (D:Dat) (e:Expr) (t':UE):Prop:=∃ t,(∀ X,lW D X->PE X e t)/\bX D.K t t'
def pY (D:Dat) (e:Expr) (t':UT):Prop:=∃ t,(∀ X,lW D X->PT X e t)/\j3 D.K t t'
def i8 (D:Dat) (e:Expr) (t':UT):Prop:=∃ t,(∀ X,lW D X->PW X e t)/\j3 D.K t t'
def lP (D:Dat) (es:List Expr) (t':UA):Prop:=∃ t,(∀ X,lW D X->PA X es t)/\j5 D.K t t'
def rO (D:Dat) (s:Stmt) (t':US):Prop:=∃ t,(∀ X,lW D X->PS X s t)/\lE D.K t t'
def oC (D:Dat) (s:List Stmt) (t':US):Prop:=∃ t,(∀ X,lW D X->pF X s t)/\lE D.K t t'
def DL (D:Dat) (k:Nat) (e:Expr) (g':UG):Prop:=∃ g,(∀ X,lW D X->PG X e g)/\wL D.K g g'/\GK k g/\∀ x σ H Q Q',(∀ σ2 H2,Q σ2 H2->Q' σ2 H2)->g x σ H Q->g x σ H Q'
def FA (D:Dat) (k:Nat) (es:List Expr) (g':xJ):Prop:=∃ g,(∀ X,lW D X->GD X es g)/\yB D.K g g'/\GA k g/\∀ x σ H Q Q',(∀ σ2 H2,Q σ2 H2->Q' σ2 H2)->g x σ H Q->g x σ H Q'
def rM (D:Dat) (tg e:Expr) (t':UI):Prop:=∃ t,(∀ X,lW D X->PI X tg e t)/\rF D.K t t'
def K2 (D:Dat) (e:Option Expr) (t':UO):Prop:=∃ t,(∀ X,lW D X->PO X e t)/\A3 D.K t t'
def Fo (D:Dat) (es:List Expr) (t':UT):Prop:=∃ t,(∀ X,lW D X->Dj X es t)/\j3 D.K t t'
section
variable {D:Dat} {a b c e o:Expr} {ta tb tc te:UE} {pos:Pos}
theorem uv (i:Nat) {x:Str} (hN:D.N[i]?=some x:=by rfl) (hv:DH D.sc x:=by first | exact Or.inl rfl | exact Or.inr (Or.inl rfl) | exact Or.inr (Or.inr rfl)) (hd:(x == ("__debug__":Str))=false:=by decide)
  (hcd:(x == ("__classdict__":Str))=false:=by decide):aV D (.Name x pos) (fK i) :=
 ⟨_,fun X h=>HI (by rw [h.N];exact hN) (by rw [h.sc];exact hv) hd hcd,DE i⟩
theorem aK {i j}:aV D (.Constant (.int i) j pos) (uC (.int i)):=⟨_,fun X h=>Pn,D0⟩
theorem mZ {i j}:aV D (.Constant (.bool i) j pos) (uC (.bl i)):=⟨_,fun X h=>Qt,Oi⟩
theorem dR {i j}:aV D (.Constant (.str i) j pos) (uC (.str i)):=⟨_,fun X h=>Pb,Dw⟩
theorem Q8 {j}:aV D (.Constant .none j pos) (uC .non):=⟨_,fun X h=>OW,Mw⟩
theorem t6 {x:Str} {i:Int} {t:Tok} (hm:D.mg x=some (.int i t)) (hg:D.sc.names.lookup x=some .globalImplicit:=by rfl) (hd:(x == ("__debug__":Str))=false:=by decide):aV D (.Name x pos) (uC (.int i)) :=
 ⟨_,fun X h=>y7 (v:=.int i) (by show X.env.scope.names.lookup x=_;rw [h.sc];exact hg) (by rw [h.mg];exact hm) ⟨t,rfl⟩ hd,D0⟩
theorem Ot {x:Str} {i:Str} {t:Tok} (hm:D.mg x=some (.str i t)) (hg:D.sc.names.lookup x=some .globalImplicit:=by rfl) (hd:(x == ("__debug__":Str))=false:=by decide):aV D (.Name x pos) (uC (.str i)) :=
 ⟨_,fun X h=>y7 (v:=.str i) (by show X.env.scope.names.lookup x=_;rw [h.sc];exact hg) (by rw [h.mg];exact hm) ⟨t,rfl⟩ hd,Dw⟩
theorem sF {x:Str} {f:Addr} (hm:D.mg x=some (.ref f)) (hg:D.sc.names.lookup x=some .globalImplicit:=by rfl) (hd:(x == ("__debug__":Str))=false:=by decide):aV D (.Name x pos) (uC (.ref f)) :=
 ⟨_,fun X h=>y7 (v:=.ref f) (by show X.env.scope.names.lookup x=_;rw [h.sc];exact hg) (by rw [h.mg];exact hm) rfl hd,Mz⟩
theorem eK {x:Str} {n:String} (hm:D.mg x=none) (hv:bootBuiltins x=some (.type n):=by kernel_rfl) (hg:D.sc.names.lookup x=some .globalImplicit:=by rfl) (hn:x≠"__name__":=by decide) (hd:(x == ("__debug__":Str))=false:=by decide):aV D (.Name x pos) (uC (.ty n)) :=
 ⟨_,fun X h=>L5 (v:=.ty n) (by show X.env.scope.names.lookup x=_;rw [h.sc];exact hg) (by rw [h.mg];exact hm) hv rfl hn hd,Pg⟩
theorem u5 {op:Operator} {r:R2} {r':eL} (ho:∀ X,lW D X->dG X (binaryOp op) r) (hr:eP D.K r r') (ha:aV D a ta) (hb:aV D b tb):aV D (.BinOp a op b pos) (fH r' ta tb):=by
 obtain ⟨x,p,s⟩:=ha;obtain ⟨y,q,r⟩:=hb
 exact ⟨_,fun X h=>QE (ho X h) (p X h) (q X h),rZ hr s r⟩
theorem BM (ha:aV D a ta) (hb:aV D b tb):aV D (.BinOp a .Sub b pos) (fH (oM fun i j=>.int (i - j)) ta tb):=u5 (fun _ _=>N5) BR ha hb
theorem cD (ha:aV D a ta) (hb:aV D b tb):aV D (.BinOp a .Mod b pos) (fH (uI (fun _ j=>0 < j) fun i j=>.int (i % j)) ta tb):=u5 (fun _ _=>PJ) qF ha hb
theorem BP (ha:aV D a ta) (hb:aV D b tb):aV D (.BinOp a .Pow b pos) (fH (uI Fs fun i j=>.int (i ^ j.toNat)) ta tb):=u5 (fun _ _=>PF) qF ha hb
def mJ (o:Bool):eL:=fun x y M Q=>match x,y with
 | .int i,.int j=>Q (.int (i + j)) M
 | .str i,.str j=>i.length + j.length<=sizeLine/\Q (.str (i++j)) M
 | .tup us,.tup ws=>us.length + ws.length<=sizeLine/\Q (.tup (us++ws)) M
 | x,y=>mL o x y M Q
def Lm (K:PySem.W.Frag):R2:=fun x y H Q=>tW (fun i j=>.int (i + j)) x y H Q\/((∃ i j,x=.str i/\y=.str j/\i.length + j.length<=sizeLine/\Q (.str (i++j)) H)\/(A0 K x y H Q\/Ft K x y H Q))
theorem LC {K:PySem.W.Frag} {o:Bool}:eP K (Lm K) (mJ o):=fun x y u w H M Q' rm ru rw h Q c=>by
 unfold mJ at h
 split at h
 ·exact .inl (BR x y _ _ H M Q' rm ru rw h Q c)
 ·exact .inr (.inl (II x y _ _ H M Q' rm ru rw h Q c))
 ·exact .inr (.inr (.inl (KG x y _ _ H M Q' rm ru rw h Q c)))
 ·exact .inr (.inr (.inr (JP x y _ _ H M Q' rm ru rw h Q c)))
theorem dF (own:Bool:=false) (ha:aV D a ta) (hb:aV D b tb):aV D (.BinOp a .Add b pos) (fH (mJ own) ta tb) :=
 u5 (r:=Lm D.K) (fun X h=>by have:=Of.or (E5.or ((JL (X:=X)).or (MY (X:=X))));rw [h.K] at this;exact this) LC ha hb
theorem uK (ha:aV D a ta):aV D (.UnaryOp .USub a pos) (vQ (fun x M Q=>match x with | .int i=>Q (.int (-i)) M | _=>False) ta):=by
 obtain ⟨x,p,s⟩:=ha
 refine ⟨_,fun X h=>QI Oq (p X h),Oz (fun x u H M Q' rm ru h Q c=>?_) s⟩
 cases u with
 | int i=>exact ⟨i,ru.int,c.here rm cT h⟩
 | _=>exact h.elim
theorem OI {op:CmpOp} {r:R2} {r':eL} (ho:∀ X,lW D X->dG X (compareOp op) r) (hr:eP D.K r r') (ha:aV D a ta) (hb:aV D b tb) (hm:behindInMarks op b=false):aV D (.Compare a [op] [b] pos) (fH r' ta tb):=by
 obtain ⟨x,p,s⟩:=ha;obtain ⟨y,q,r⟩:=hb
 exact ⟨_,fun X h=>Nf (ho X h) (p X h) (q X h) hm,rZ hr s r⟩
theorem OL {op:CmpOp} {r:R2} {r':eL} (ho:∀ X,lW D X->dG X (compareOp op) r) (hr:eP D.K r r') (ha:aV D a ta) (hb:aV D b tb) (hm:behindInMarks op b=false):pY D (.Compare a [op] [b] pos) (lR (fH r' ta tb)):=by
 obtain ⟨x,p,s⟩:=ha;obtain ⟨y,q,r⟩:=hb
 exact ⟨_,fun X h=>Nw (ho X h) (p X h) (q X h) hm,BK (rZ hr s r)⟩
abbrev Ad:eL:=oM fun i j=>.bl (decide (i < j))
abbrev xG:eL:=oM fun i j=>.bl (decide (i<=j))
abbrev xX:eL:=oM fun i j=>.bl (decide (j < i))
abbrev xY:eL:=oM fun i j=>.bl (decide (j<=i))
structure mY (D:Dat) (op:CmpOp) (r':eL):Prop where
 ex:∃ r:R2,(∀ X,lW D X->dG X (compareOp op) r)/\eP D.K r r'
theorem uJ:mY D .LtE xG:=⟨⟨_,fun _ _=>Qc,qM⟩⟩
theorem yK:mY D .Gt xX:=⟨⟨_,fun _ _=>Qw,qM⟩⟩
theorem Ri:mY D .GtE xY:=⟨⟨_,fun _ _=>Qi,qM⟩⟩
theorem Lv:mY D .Is pL:=⟨⟨_,fun _ _=>PH,NB⟩⟩
def tK (neg:Bool):eL:=fun x y M Q=>match x,y with
 | .str i,.str j=>Q (.bl (if neg then !(!(Builtin.Str.occurrences j i 0 j.length 1).isEmpty) else !(Builtin.Str.occurrences j i 0 j.length 1).isEmpty)) M
 | _,_=>False
theorem Qy:mY D .In (tK false):=⟨⟨_,fun _ _=>GL,fun x y u w H M Q' rm ru rw h Q c=>by
 cases u with
 | str i=>cases w with
  | str j=>exact ⟨i,j,ru.str,rw.str,c.here rm dD h⟩
  | _=>exact h.elim
 | _=>exact h.elim⟩⟩
theorem p9 {op:CmpOp} {r':eL} (k:mY D op r') (ha:aV D a ta) (hb:aV D b tb) (hm:behindInMarks op b=false:=by first | exact IB _ | with_unfolding_all rfl):aV D (.Compare a [op] [b] pos) (fH r' ta tb) :=
 let ⟨_,h1,h2⟩:=k.ex;OI h1 h2 ha hb hm
theorem cB {op:CmpOp} {r':eL} (k:mY D op r') (ha:aV D a ta) (hb:aV D b tb) (hm:behindInMarks op b=false:=by first | exact IB _ | with_unfolding_all rfl):pY D (.Compare a [op] [b] pos) (lR (fH r' ta tb)) :=
 let ⟨_,h1,h2⟩:=k.ex;OL h1 h2 ha hb hm
theorem Gk {op op':CmpOp} {r r':eL} (k:mY D op r) (k':mY D op' r') (ha:aV D a ta) (hb:aV D b tb) (hc:aV D c tc) (hm:lastMarks [op,op'] [b,c]=false:=by with_unfolding_all rfl) :
  aV D (.Compare a [op,op'] [b,c] pos) (j6 r r' ta tb tc):=by
 obtain ⟨x,p,s⟩:=ha;obtain ⟨y,q,r⟩:=hb;obtain ⟨z,u,v⟩:=hc
 obtain ⟨_,h1,h2⟩:=k.ex
 obtain ⟨_,h3,h4⟩:=k'.ex
 exact ⟨_,fun X h=>JC (h1 X h) (h3 X h) (p X h) (q X h) (u X h) hm,zH h2 h4 s r v⟩
theorem Lb {op op':CmpOp} {r r':eL} (k:mY D op r) (k':mY D op' r') (ha:aV D a ta) (hb:aV D b tb) (hc:aV D c tc) (hm:lastMarks [op,op'] [b,c]=false:=by with_unfolding_all rfl) :
  pY D (.Compare a [op,op'] [b,c] pos) (lR (j6 r r' ta tb tc)):=by
 obtain ⟨x,p,s⟩:=ha;obtain ⟨y,q,r⟩:=hb;obtain ⟨z,u,v⟩:=hc
 obtain ⟨_,h1,h2⟩:=k.ex
 obtain ⟨_,h3,h4⟩:=k'.ex
 exact ⟨_,fun X h=>IG (h1 X h) (h3 X h) (p X h) (q X h) (u X h) hm,BK (zH h2 h4 s r v)⟩
theorem dQ (ha:aV D a ta) (he:∀ env whole,isTrue a env whole=(do let v <- whole;standAt a.pos;holding [v] (truthy v)):=by intro _ _;rfl):pY D a (rB ta):=by
 obtain ⟨x,p,s⟩:=ha
 refine ⟨_,fun X h=>?_,LD s⟩
 have:=J1 (p X h) (he X.env)
 rw [h.K] at this
 exact this
theorem i8.pt {t:UT} (h:i8 D a t):pY D a t:=let ⟨_,p,s⟩:=h;⟨_,fun X h=>(p X h).pt,s⟩
variable {rest:List Expr} {tA tB':UT}
theorem rN (ha:pY D a tA):i8 D (.BoolOp .And [a] pos) tA:=let ⟨_,p,s⟩:=ha;⟨_,fun X h=>L0 (p X h),s⟩
theorem iU (ha:pY D a tA):i8 D (.BoolOp .Or [a] pos) tA:=let ⟨_,p,s⟩:=ha;⟨_,fun X h=>PB (p X h),s⟩
theorem qA (ha:pY D a tA) (hb:i8 D (.BoolOp .And (b :: rest) pos) tB'):i8 D (.BoolOp .And (a :: b :: rest) pos) (qY tA tB'):=let ⟨_,p,s⟩:=ha;let ⟨_,q,r⟩:=hb;⟨_,fun X h=>PL (p X h) (q X h),LJ s r⟩
theorem jE (ha:pY D a tA) (hb:i8 D (.BoolOp .Or (b :: rest) pos) tB'):i8 D (.BoolOp .Or (a :: b :: rest) pos) (vP tA tB'):=let ⟨_,p,s⟩:=ha;let ⟨_,q,r⟩:=hb;⟨_,fun X h=>P9 (p X h) (q X h),PK s r⟩
theorem fF (ha:pY D a tA):pY D (.UnaryOp .Not a pos) (qU tA):=let ⟨_,p,s⟩:=ha;⟨_,fun X h=>OA (p X h),LB s⟩
theorem kF {op} (ha:aV D a ta):aV D (.BoolOp op [a] pos) ta:=let ⟨_,p,s⟩:=ha;⟨_,fun X h=>Ou (p X h),s⟩
theorem j8 (ha:aV D a ta) (hb:aV D (.BoolOp .And (b :: rest) pos) tb):aV D (.BoolOp .And (a :: b :: rest) pos) (gI ta tb):=let ⟨_,p,s⟩:=ha;let ⟨_,q,r⟩:=hb;⟨_,fun X h=>PM (p X h) (q X h),JK s r⟩
theorem QH (ha:aV D a ta) (hb:aV D (.BoolOp .Or (b :: rest) pos) tb):aV D (.BoolOp .Or (a :: b :: rest) pos) (rH ta tb):=let ⟨_,p,s⟩:=ha;let ⟨_,q,r⟩:=hb;⟨_,fun X h=>QM (p X h) (q X h),NA s r⟩
theorem N6 (ha:aV D a ta):aV D (.UnaryOp .Not a pos) (n4 ta):=let ⟨_,p,s⟩:=ha;⟨_,fun X h=>Ov (p X h),Jq s⟩
theorem K3 (hc:pY D c tA) (ha:aV D a ta) (hb:aV D b tb):aV D (.IfExp c a b pos) (vN tA ta tb):=let ⟨_,p,s⟩:=ha;let ⟨_,q,r⟩:=hb;let ⟨_,u,v⟩:=hc;⟨_,fun X h=>JY (u X h) (p X h) (q X h),NP v s r⟩
variable {es:List Expr} {tas:UA}
theorem aB:lP D [] kH:=⟨_,fun X h=>PQ,MW⟩
theorem aA (ha:aV D e te) (hr:lP D es tas) (hs:∀ env,starEach (e :: es) env=(false,eval e env) :: starEach es env:=by intro _;rfl):lP D (e :: es) (gO te tas):=let ⟨_,p,s⟩:=ha;let ⟨_,q,r⟩:=hr;⟨_,fun X h=>Nz (p X h) (q X h) (hs _),Jc s r⟩
theorem bC {x1} (h:lP D es tas):aV D (.Tuple es x1 pos) (pM tas):=let ⟨_,p,s⟩:=h;⟨_,fun X h=>Om (p X h),LM s⟩
theorem cU (own:Bool:=false) (h:lP D es tas):aV D (.List es pos) (rE own tas):=let ⟨_,p,s⟩:=h;⟨_,fun X h=>Ob (p X h),Md s⟩
theorem aL (ha:aV D a ta) (hb:aV D b tb) (hs:u7 b:=by intro _ _;rfl):aV D (.Subscript a b pos) (fH pZ ta tb):=by
 obtain ⟨x,p,s⟩:=ha;obtain ⟨y,q,r⟩:=hb
 refine ⟨_,fun X h=>?_,rZ NR s r⟩
 have:=QD (pos:=pos) NK (p X h) (q X h) hs
 rw [h.K] at this
 exact this
theorem nA:K2 D none jX:=⟨_,fun X h=>Nv,EA⟩
theorem iT (h:aV D e te):K2 D (some e) (nV te):=let ⟨_,p,s⟩:=h;⟨_,fun X h=>Nq (p X h),KN s⟩
variable {st:Stmt} {sts body body2:List Stmt} {t u:US}
theorem bD:oC D [] b8:=⟨_,fun X h=>Nc,Ji⟩
theorem aE (h1:rO D st t) (h2:oC D sts u):oC D (st :: sts) (oE t u):=let ⟨_,p,s⟩:=h1;let ⟨_,q,r⟩:=h2;⟨_,fun X h=>KC (p X h) (q X h),Ly s r⟩
theorem aH (h1:rO D st t):oC D [st] t:=let ⟨_,p,s⟩:=h1;⟨_,fun X h=>MX (p X h),s⟩
theorem gX (he:aV D e te) (hs:∀ env,swapsWith e none pos.line env=pure false:=by intro _;rfl):rO D (.Expr e pos) (iR te):=let ⟨_,p,s⟩:=he;⟨_,fun X h=>Me (p X h) (hs _),KU s⟩
theorem aQ (he:aV D e te):rO D (.Return (some e) pos) (cH te):=let ⟨_,p,s⟩:=he;⟨_,fun X h=>OF (p X h),MC s⟩
theorem bS {c:Expr} {tc:UT} (hc:pY D c tc) (ha:oC D body t) (hb:oC D body2 u):rO D (.If c body body2 pos) (oJ tc t u):=let ⟨_,p,s⟩:=ha;let ⟨_,q,r⟩:=hb;let ⟨_,x,y⟩:=hc;⟨_,fun X h=>QK (x X h) (p X h) (q X h),Mm y s r⟩
theorem KO {c:Expr} {tc:UT} (hc:pY D c tc) (hb:oC D body t):rO D (.While c body [] pos) (Cd tc t):=by
 obtain ⟨_,p,s⟩:=hb;obtain ⟨_,x,y⟩:=hc
 exact ⟨_,fun X h=>JX (by rw [h.xe];exact PassesOwn.never) (x X h) (p X h),G8 y s⟩
variable {k:Nat} {g:UG} {gs:xJ}
theorem aY (i:Nat) {x:Str} (hN:D.N.Nodup) (hi:D.N[i]?=some x:=by rfl) (hx:Loc D.sc x:=by first | exact Or.inl rfl | exact Or.inr rfl) (hik:i < k:=by decide) (hf:D.fn=true\/D.sc.names.lookup x=some .local:=by first | exact .inl rfl | exact .inr rfl):DL D k (.Name x pos) (hName i) :=
 ⟨_,fun X h=>Mv (i:=i) (by rw [h.N];exact hN) (by rw [h.N];exact hi) (by rw [h.sc];exact hx) (by rcases hf with z | z;exact .inl (h.fn z x);exact .inr (by rw [h.sc];exact z)),uO i,Mb hik,OQ⟩
theorem gY:FA D k [] jZ:=⟨_,fun X h=>MZ,Jf,O9,QA⟩
theorem bH (h1:DL D k e g) (h2:FA D k es gs) (hs:∀ env,(assignEach (e :: es) env).map (·.2)=assign e env :: (assignEach es env).map (·.2):=by intro _;rfl):FA D k (e :: es) (h9 g gs) :=
 let ⟨_,p,s,x,y⟩:=h1;let ⟨_,q,r,z,w⟩:=h2;⟨_,fun X h=>IK (p X h) (q X h) (hs _),GC s r,MJ x z w y,O6 y w⟩
theorem iX {kk:Nat} {n:Nat} (h:FA D k es gs) (hn:∀ env,(assignEach es env).length=n:=by intro _;rfl) (hst:∀ env,(assignEach es env).findIdx? (·.1)=none:=by intro _;rfl):DL D k (.Tuple es kk pos) (iK n gs):=by
 obtain ⟨_,p,s,x,y⟩:=h
 refine ⟨_,fun X h=>?_,IT s,Od x,P6 y⟩
 have:=OM (pos:=pos) (k:=kk) h.calm (p X h) (hn _) (hst _)
 rw [h.K] at this
 exact this
theorem aZ (i:Nat) {x:Str} {pos':Pos} (hN:D.N.Nodup) (he:aV D e te) (hi:D.N[i]?=some x:=by rfl) (hx:Loc D.sc x:=by first | exact Or.inl rfl | exact Or.inr rfl) (hs:∀ env,swapsWith e (some (.Name x pos')) pos.line env=pure false:=by intro _;rfl)
  (hf:D.fn=true\/D.sc.names.lookup x=some .local:=by first | exact .inl rfl | exact .inr rfl):rO D (.Assign [.Name x pos'] e pos) (cF te (hName i)):=by
 obtain ⟨_,p,s⟩:=he
 exact ⟨_,fun X h=>ON (i:=i) (by rw [h.N];exact hN) (by rw [h.N];exact hi) (by rw [h.sc];exact hx) (p X h) (hs _) (by rcases hf with z | z;exact .inl (h.fn z x);exact .inr (by rw [h.sc];exact z)),Dl s (uO i)⟩
variable {tg iter:Expr} {wi:UI}
theorem dO (h:aV D e te):rM D tg e (kQ te):=by
 obtain ⟨_,p,s⟩:=h
 refine ⟨_,fun X h=>?_,JE s⟩
 have:=Oa (tg:=tg) (p X h)
 rw [h.K] at this
 exact this
theorem LN {p:Pos} {ta:UA} (hm:D.mg "range"=none) (ha:lP D [a] ta) (hg:D.sc.names.lookup ("range":Str)=some .globalImplicit:=by rfl) (hs:∀ env,starEach [a] env=[(false,eval a env)]:=by intro _;rfl):rM D tg (.Call (.Name "range" p) [a] [] pos) (nW ta):=by
 obtain ⟨_,q,s⟩:=ha
 exact ⟨_,fun X h=>Ib (by show X.env.scope.names.lookup _=_;rw [h.sc];exact hg) (by rw [h.mg];exact hm) (q X h) (hs _),Je s⟩
theorem i7 (hi:rM D tg iter wi) (hg:DL D k tg g) (hb:oC D body t) (hs:∀ env x,foldedSetIterable iter env x=pure x:=by intro _ _;rfl):rO D (.For tg iter body [] pos) (IY wi g t):=by
 obtain ⟨_,p,s⟩:=hi;obtain ⟨_,q,r,_⟩:=hg;obtain ⟨_,x,y⟩:=hb
 exact ⟨_,fun X h=>NN (by rw [h.xe];exact PassesOwn.never) h.calm (p X h) (q X h) (x X h) (hs _),ME s r y⟩
end
end U2
namespace U2
open PySem PySem.Spec PyProof.Rows L2
structure Callee (P:Program) (w:World) (K:PySem.W.Frag) (mg:Str->Option Value) (base:Heap) (j:Nat) (x:Str) (sp:bF) (dus:List U):Prop where
 ex:∃ f fd ps dvs ds,iZ P w K mg base m5 j f fd ps (fE K sp)/\mg x=some (.ref f)/\PySem.W.keepIn K (.ref f)=true/\Binds K fd ps ds/\Vals dvs ds/\∀ H M,aI K H M dus dvs
abbrev Rz (D:Dat):=Callee D.prog D.w D.K D.mg D.base
section
variable {D:Dat} {a b c e o:Expr} {ta tb tc te:UE} {pos p:Pos} {es:List Expr} {tas:UA} {x:Str}
theorem aP {sp:bF} {dus:List U} {j:Nat} (F:Rz D j x sp dus) (ha:lP D (e :: es) tas) (hj:j<=D.k:=by first | exact Nat.le_refl _ | (dsimp only;omega) | omega | (dsimp only [bO];omega)) (hg:D.sc.names.lookup x=some .globalImplicit:=by rfl) (hdb:(x == ("__debug__":Str))=false:=by decide)
  (he:∀ env,starEach (e :: es) env=(false,eval e env) :: starEach es env:=by intro _;rfl) (hpl:∀ env,(backTo pos (starEach es env)).any (·.1)=false:=by intro _;rfl):aV D (.Call (.Name x p) (e :: es) [] pos) (kS sp dus tas):=by
 obtain ⟨f,fd,ps,dvs,ds,F,hm,kp,hb,hd,hr⟩:=F.ex
 obtain ⟨_,q,s⟩:=ha
 refine ⟨ET (fE D.K sp) dvs E0 _,fun X h=>?_,Ku hr s⟩
 have F':iZ X.prog X.w X.K X.mg X.base m5 j f fd ps (fE D.K sp):=by rw [h.prog,h.w,h.K,h.mg,h.base];exact F
 exact MA F' (h.room.mono hj) (by show X.env.scope.names.lookup x=_;rw [h.sc];exact hg) (by rw [h.mg];exact hm) (by rw [h.K];exact kp) (by rw [h.K];exact hb) hd Er (q X h) hdb (he _) (hpl _)
structure tT (D:Dat) (f:Value) (r':List U->aF->UK->Prop):Prop where
 ex:∃ r,(∀ X,lW D X->iB X f r)/\sL D.K r r'
theorem cA {id:String} {r':List U->aF->UK->Prop} (k:tT D (.builtin id) r') (hm:D.mg x=none) (ha:lP D (e :: es) tas) (hv:bootBuiltins x=some (.builtin id):=by kernel_rfl) (hg:D.sc.names.lookup x=some .globalImplicit:=by rfl) (hn:x≠"__name__":=by decide) (hdb:(x == ("__debug__":Str))=false:=by decide)
  (he:∀ env,starEach (e :: es) env=(false,eval e env) :: starEach es env:=by intro _;rfl) (hpl:∀ env,(backTo pos (starEach es env)).any (·.1)=false:=by intro _;rfl):aV D (.Call (.Name x p) (e :: es) [] pos) (qN r' tas):=by
 obtain ⟨r,h1,h2⟩:=k.ex
 obtain ⟨_,q,s⟩:=ha
 exact ⟨_,fun X h=>IS (h1 X h) (by show X.env.scope.names.lookup x=_;rw [h.sc];exact hg) (by rw [h.mg];exact hm) hv (q X h) hn hdb (he _) (hpl _),HX h2 s⟩
theorem qT {T:String} {r':List U->aF->UK->Prop} (k:tT D (.type T) r') (hm:D.mg x=none) (ha:lP D (e :: es) tas) (hv:bootBuiltins x=some (.type T):=by kernel_rfl) (hg:D.sc.names.lookup x=some .globalImplicit:=by rfl) (hn:x≠"__name__":=by decide) (hdb:(x == ("__debug__":Str))=false:=by decide)
  (he:∀ env,starEach (e :: es) env=(false,eval e env) :: starEach es env:=by intro _;rfl) (hpl:∀ env,(backTo pos (starEach es env)).any (·.1)=false:=by intro _;rfl):aV D (.Call (.Name x p) (e :: es) [] pos) (qN r' tas):=by
 obtain ⟨r,h1,h2⟩:=k.ex
 obtain ⟨_,q,s⟩:=ha
 exact ⟨_,fun X h=>Gz (h1 X h) (by show X.env.scope.names.lookup x=_;rw [h.sc];exact hg) (by rw [h.mg];exact hm) hv (q X h) hn hdb (he _) (hpl _),HX h2 s⟩
theorem iJ:tT D (.builtin "len") nO:=⟨⟨_,fun X h=>by have:=Jy (X:=X);rw [h.K] at this;exact this,Np⟩⟩
theorem La:tT D (.builtin "abs") (mQ (fun _=>True) fun i=>.int (if i < 0 then -i else i)):=⟨⟨_,fun X h=>Jz,Nl⟩⟩
theorem wO (own:Bool:=false):tT D (.type "list") (mU own):=⟨⟨_,fun X h=>by have:=Bh (X:=X);rw [h.K] at this;exact this,Jr⟩⟩
theorem sH:tT D (.type "tuple") j9:=⟨⟨_,fun X h=>by have:=Al (X:=X);rw [h.K] at this;exact this,Ie⟩⟩
def O5 (K:PySem.W.Frag):List V->Hp->VK->Prop:=fun xs H Q=>∃ x T t b,xs=[x,.ty T]/\(mO K H x (.type t)\/(t="tuple"/\∃ p vs ob,x=.ref p/\H p=some (.frz ob (.tup vs)))\/(t="tuple"/\∃ p vs,x=.ref p/\KT K p vs)\/(t="list"/\∃ p vs,x=.ref p/\KL K p vs)\/(t="dict"/\∃ p ob u,x=.ref p/\H p=some (.frz ob u)/\sQ u=true))/\PySem.W.kitOne K (.type t) (.type T)=some b/\Q (.bl b) H
theorem Kn {X:Cx}:iB X (.builtin "isinstance") (O5 X.K):=by
 intro pins s σ H xs us Q I r h
 obtain ⟨x,T,t,b,rfl,ty,e,q⟩:=h
 obtain ⟨u,w',rfl,ru,rw'⟩:=vals2 r
 cases rw'
 rcases ty with ty | ⟨rfl,p,vs,ob,rfl,m⟩ | ⟨rfl,p,vs,rfl,o,its,n,hk,hc,hd,_,_⟩ | ⟨rfl,p,vs,rfl,o,its,n,hk,hc,_,hd,_,_⟩ | ⟨rfl,p,ob,du,rfl,m,dk⟩
 ·exact GG I ru ty e fun tk=>⟨.bl b,H,I.tok tk,rfl,q⟩
 ·cases ru
  obtain ⟨_,_,_,_,o,h1,h2,_⟩:=(show bR X.prog X.w H s.heap p (.frz ob (.tup vs)) from I.hok p _ m)
  exact PySem.W.kia_one PySem.W.kitx_tuple I.kIn ⟨o,h1,h2⟩ e (fun z=>nomatch z) fun tk=>⟨.bl b,H,I.tok tk,rfl,q⟩
 ·cases ru
  exact PySem.W.kia_one PySem.W.kitx_tuple I.kIn ⟨o,I.kIn _ _ hk,hc⟩ e (fun z=>nomatch z) fun tk=>⟨.bl b,H,I.tok tk,rfl,q⟩
 ·cases ru
  exact PySem.W.kia_one PySem.W.kitx_list I.kIn ⟨o,I.kIn _ _ hk,hc⟩ e (fun z=>nomatch z) fun tk=>⟨.bl b,H,I.tok tk,rfl,q⟩
 ·cases ru
  obtain ⟨hg,ho⟩:=(show bR X.prog X.w H s.heap p (.frz ob du) from I.hok p _ m)
  have hx:∃ o,s.heap.get? p=some o/\o.cls=.type "dict":=by
   cases du with
   | dK kvs=>obtain ⟨_,_,_,_,o,_,_,h1,h2,_⟩:=ho;exact ⟨o,h1,h2.1⟩
   | dT kvs=>obtain ⟨_,_,_,_,o,_,_,h1,h2,_⟩:=ho;exact ⟨o,h1,h2.1⟩
   | _=>cases dk
  exact PySem.W.kia_one PySem.W.kitx_dict I.kIn hx e (fun z=>nomatch z) fun tk=>⟨.bl b,H,I.tok tk,rfl,q⟩
def xR:List (String × String × Bool):=[("NoneType","bool",false),("NoneType","int",false),("NoneType","str",false),("NoneType","tuple",false),("NoneType","list",false),("NoneType","dict",false),("bool","bool",true),("bool","int",true),("bool","str",false),("bool","tuple",false),("bool","list",false),("bool","dict",false),("int","bool",false),("int","int",true),("int","str",false),("int","tuple",false),("int","list",false),("int","dict",false),("str","bool",false),("str","int",false),("str","str",true),("str","tuple",false),("str","list",false),("str","dict",false),("tuple","bool",false),("tuple","int",false),("tuple","str",false),("tuple","tuple",true),("tuple","list",false),("tuple","dict",false),("list","bool",false),("list","int",false),("list","str",false),("list","tuple",false),("list","list",true),("list","dict",false),("dict","bool",false),("dict","int",false),("dict","str",false),("dict","tuple",false),("dict","list",false),("dict","dict",true)]
theorem G9 {K:PySem.W.Frag}:∀ r∈xR,PySem.W.kitOne K (.type r.1) (.type r.2.1)=some r.2.2:=by
 intro r hr
 simp only [xR,List.mem_cons,List.not_mem_nil,or_false] at hr
 rcases hr with rfl | rfl | rfl | rfl | rfl | rfl | rfl | rfl | rfl | rfl | rfl | rfl | rfl | rfl | rfl | rfl | rfl | rfl | rfl | rfl | rfl | rfl | rfl | rfl | rfl | rfl | rfl | rfl | rfl | rfl | rfl | rfl | rfl | rfl | rfl | rfl | rfl | rfl | rfl | rfl | rfl | rfl <;> first | rfl | kernel_rfl
def bB (t T:String):Option Bool:=(xR.find? fun r=>r.1 == t && r.2.1 == T).map (·.2.2)
theorem zX {K:PySem.W.Frag} {t T:String} {b:Bool} (h:bB t T=some b):PySem.W.kitOne K (.type t) (.type T)=some b:=by
 unfold bB at h
 cases e:xR.find? fun r=>r.1 == t && r.2.1 == T with
 | none=>rw [e] at h;cases h
 | some r =>
  rw [e] at h
  cases h
  have h1:=List.find?_some e
  have h2:=G9 (K:=K) r (List.mem_of_find?_eq_some e)
  simp only [Bool.and_eq_true,beq_iff_eq] at h1
  rw [h1.1,h1.2] at h2
  exact h2
def mW:List U->aF->UK->Prop:=fun us M Q=>match us with
 | [x,.ty T]=>match nM M x with
  | some t=>match bB t T with
   | some b=>Q (.bl b) M
   | none=>False
  | none=>False
 | _=>False
theorem MF {K:PySem.W.Frag}:sL K (O5 K) mW:=fun xs us H M Q' rm rus h Q c=>by
 unfold mW at h
 split at h
 ·rename_i x T
  split at h
  ·rename_i t e
   split at h
   ·rename_i b e2
    obtain ⟨v,z,rfl,a1,a2⟩:=rus.two
    cases a2.ty
    refine ⟨v,T,t,b,rfl,?_,zX e2,c.here rm dD h⟩
    cases x with
    | non=>cases a1.non;cases e;exact .inl .non
    | bl y=>cases a1.bl;cases e;exact .inl (.bl y)
    | int y=>cases a1.int;cases e;exact .inl (.int y)
    | str y=>cases a1.str;cases e;exact .inl (.str y)
    | ty y=>cases e
    | tup y =>
     cases e
     simp only [aJ] at a1
     obtain ⟨a,vs,rfl,m,r⟩:=a1
     exact .inl (.tup m.2)
    | lst y =>
     cases e
     simp only [aJ] at a1
     obtain ⟨a,vs,rfl,m,r⟩:=a1
     rcases m with ⟨_,m | ⟨ob,m⟩⟩ | k
     ·exact .inl (.lst m)
     ·exact .inl (.frz m)
     ·exact .inr (.inr (.inr (.inl ⟨rfl,a,vs,rfl,k⟩)))
    | dic ks tk y =>
     cases e
     simp only [aJ] at a1
     obtain ⟨a,vs,rfl,m,r,_⟩:=a1
     cases tk with
     | true =>
      obtain ⟨ws,h1 | ⟨ob,h1⟩,_⟩:=r
      ·exact .inl (.dT h1)
      ·exact .inr (.inr (.inr (.inr ⟨rfl,a,ob,_,rfl,h1,rfl⟩)))
     | false =>
      obtain ⟨ws,h1 | ⟨ob,h1⟩,_⟩:=r
      ·exact .inl (.dK h1)
      ·exact .inr (.inr (.inr (.inr ⟨rfl,a,ob,_,rfl,h1,rfl⟩)))
    | ref y =>
     cases a1.ref
     simp only [nM] at e
     split at e
     ·rename_i ws e3
      cases e
      obtain ⟨vs,h1,_⟩:=rm y _ e3
      exact .inl (.lst h1)
     ·rename_i ws e4
      cases e
      obtain ⟨vs,h1,_⟩:=rm y _ e4;exact .inl (.dK h1)
     ·rename_i ws e4
      cases e
      obtain ⟨vs,h1,_⟩:=rm y _ e4;exact .inl (.dT h1)
     ·cases e
   ·exact h.elim
  ·exact h.elim
 ·exact h.elim
theorem fM:tT D (.builtin "isinstance") mW:=⟨⟨_,fun X h=>by have:=Kn (X:=X);rw [h.K] at this;exact this,MF⟩⟩
def pS:List U->Option (List Bool)
 | []=>some []
 | .bl b :: r=>(pS r).map (b :: ·)
 | _=>none
def rD:List U->aF->UK->Prop:=fun us M Q=>match us with
 | [x]=>match view M x with
  | .lst ws=>match pS ws with
   | some bs=>Q (.bl (bs.all fun b=>b)) M
   | none=>False
  | _=>False
 | _=>False
theorem AX {K:PySem.W.Frag} {H:Hp} {M:aF}:∀ {us:List U} {vs:List V} {bs:List Bool},aI K H M us vs->pS us=some bs->vs=bs.map V.bl
 | [],_,_,r,h=>by cases h;exact r.inv_nil
 | u :: us,_,bs,r,h=>by
  obtain ⟨v,vs',rfl,a,b⟩:=r.inv_cons
  cases u with
  | bl y =>
   simp only [pS] at h
   cases e:pS us with
   | none=>rw [e] at h;cases h
   | some cs =>
    rw [e] at h
    cases h
    rw [AX b e,a.bl];rfl
  | _=>cases h
theorem EJ:tT D (.builtin "all") rD:=⟨⟨_,fun X h=>by have:=Gw (X:=X) h.calm;rw [h.K] at this;exact this,fun xs us H M Q' rm rus h Q c=>by
 unfold rD at h
 split at h
 ·rename_i x
  obtain ⟨v,rfl,a1⟩:=rus.one
  split at h
  ·rename_i ws e
   split at h
   ·rename_i bs e2
    obtain ⟨b,zvs,rfl,s2,r2⟩:=fL rm a1 e
    rw [AX r2 e2] at s2
    exact ⟨b,bs,rfl,s2,c.here rm dD h⟩
   ·exact h.elim
  ·exact h.elim
 ·exact h.elim⟩⟩
theorem iI {apos:Pos} (ho:aV D o ta) (ha:lP D [e] tas) (hbase:∀ env,attributeBase o "append" env (eval o env)=eval o env:=by intro _;rfl)
  (hfew:∀ env,((backTo pos (starEach [e] env)).all (fun x=>!x.1) && (backToKw pos (keywordEach [] env)).all (fun x=>x.1.isSome) && decide ([e].length + ([]:List Keyword).length + (if ([]:List Keyword).isEmpty then 0 else 1) < 30))=true:=by intro _;rfl)
  (hline:(apos.endLine == pos.line)=true:=by rfl) (hs:∀ env,starEach [e] env=[(false,eval e env)]:=by intro _;rfl):aV D (.Call (.Attribute o "append" apos) [e] [] pos) (tR iS ta tas):=by
 obtain ⟨_,p,s⟩:=ho;obtain ⟨_,q,r⟩:=ha
 refine ⟨_,fun X h=>?_,Bg Gb s r⟩
 have:=EO (cpos:=pos) (apos:=apos) PySem.F.plainAttrs_list PySem.F.slot_list_append PySem.F.type_list_append Ac (p X h) (q X h) (hbase _) (hfew _) hline (hs _) (by rfl)
 rw [h.K] at this
 exact this
theorem rK {apos:Pos} (ho:aV D o ta) (hbase:∀ env,attributeBase o "pop" env (eval o env)=eval o env:=by intro _;rfl)
  (hline:(apos.endLine == pos.line)=true:=by rfl):aV D (.Call (.Attribute o "pop" apos) [] [] pos) (rA pH ta):=by
 obtain ⟨_,p,s⟩:=ho
 refine ⟨_,fun X h=>?_,Mg Ni s⟩
 have:=N3 (cpos:=pos) (apos:=apos) PySem.F.plainAttrs_list PySem.F.slot_list_pop PySem.F.type_list_pop NH (p X h) (hbase _) hline
 rw [h.K] at this
 exact this
def eA (scope sc:Scope):Scope :=
 { scope with names:=scope.names.map fun (n,k)=>if (k == .free && sc.kind == .function && sc.names.lookup n == some .cell) then (n,.cell) else (n,k) }
def bO (D:Dat) (N:List Str) (scope:Scope):Dat:={ D with N:=N,sc:=eA scope D.sc,fn:=false,cod:=.none }
theorem lW.comp {X:Cx} (h:lW D X) (N:List Str) (scope:Scope) (cl:List (Str × Addr)) (C:Addr) (s:Shared) (H:Hp) (fp:List Addr):lW (bO D N scope) (eF X N scope cl C s H fp) :=
 ⟨h.prog,h.w,h.K,h.mg,h.base,rfl,by show eA scope X.env.scope=eA scope D.sc;rw [h.sc],h.room,h.calm,rfl,(fun z=>by cases z),(fun z=>absurd rfl z),(fun z=>by cases z)⟩
theorem gH:Fo D [] (fun _ M Q=>Q true M):=⟨OH,fun X h=>LA,fun σ τ H M Q' rs rm q Q c=>c true M H (aR.refl _ _) rm q⟩
theorem DR {t:UT} (h:pY D c t):Fo D [c] t:=let ⟨_,p,s⟩:=h;⟨_,fun X h=>Mu (p X h),s⟩
theorem iF (own:Bool) (N:List Str) (k:Nat) (ix:List Nat) {scope:Scope} {tg iter elt:Expr} {ifs:List Expr} {wi:UI} {g:UG} {tcs:UT} (hi:rM D tg iter wi) (hg:DL (bO D N scope) k tg g) (hif:Fo (bO D N scope) ifs tcs) (he:aV (bO D N scope) elt te)
  (hk:scope.kind=.function:=by rfl) (hcell:∀ y∈scope.names,y.2≠.cell:=by first | decide +kernel | (dsimp only;decide +kernel) | (dsimp only [bO,eA];decide +kernel)) (hnames:∀ y∈scope.names,y.2=.local->scope.names.lookup y.1=some .local:=by first | decide +kernel | (dsimp only;decide +kernel) | (dsimp only [bO,eA];decide +kernel))
  (hfree:∀ y∈scope.names,y.2=.free->D.sc.names.lookup y.1=some .cell\/D.sc.names.lookup y.1=some .free:=by first | decide +kernel | (dsimp only;decide +kernel) | (dsimp only [bO,eA];decide +kernel)) (hone:∀ y∈scope.names,y.2=.free->scope.names.lookup y.1=some .free:=by first | decide +kernel | (dsimp only;decide +kernel) | (dsimp only [bO,eA];decide +kernel))
  (hN:ix.map (fun i=>D.N[i]?)=(N.drop k).map some:=by rfl) (hcap:∀ x∈N.drop k,scope.names.lookup x=some .free:=by first | decide +kernel | (dsimp only;decide +kernel) | (dsimp only [bO,eA];decide +kernel)) (hlen:N.length=k + ix.length:=by rfl)
  (hs:∀ env x,foldedSetIterable iter env x=pure x:=by intro _ _;rfl):aV D (.ListComp elt [⟨tg,iter,ifs,0⟩] scope pos) (sX own k ix wi g tcs te):=by
 obtain ⟨_,p1,s1⟩:=hi;obtain ⟨_,p2,s2,gk,_⟩:=hg;obtain ⟨_,p3,s3⟩:=hif;obtain ⟨_,p4,s4⟩:=he
 have hN':∀ (j:Nat) x,N[k + j]?=some x->∃ i,ix[j]?=some i/\D.N[i]?=some x:=fun j x e=>by
  have e1:((N.drop k).map some)[j]?=some (some x):=by rw [List.getElem?_map,List.getElem?_drop,e];rfl
  rw [<- hN,List.getElem?_map] at e1
  cases q:ix[j]? with
  | none=>rw [q] at e1;cases e1
  | some i=>rw [q] at e1;exact ⟨i,rfl,Option.some.inj e1⟩
 have hcap':∀ (j:Nat) x,N[k + j]?=some x->scope.names.lookup x=some .free:=fun j x e=>hcap x (List.mem_of_getElem? (i:=j) (by rw [List.getElem?_drop];exact e))
 refine ⟨_,fun X h=>M8 (N:=N) (k:=k) (ix:=ix) h.calm (p1 X h) gk hk hcell hnames (fun y hy e=>by show X.env.scope.names.lookup y.1=_\/X.env.scope.names.lookup y.1=_;rw [h.sc];exact hfree y hy e) hone (fun j x e=>by rw [h.N];exact hN' j x e) hcap' hlen
  (fun cl C s H fp=>p2 _ (h.comp N scope cl C s H fp)) (fun cl C s H fp=>p3 _ (h.comp N scope cl C s H fp)) (fun cl C s H fp=>p4 _ (h.comp N scope cl C s H fp)) (hs _),By s1 s2 s3 s4⟩
theorem KA {elt:Expr} {gens:List Comprehension} {scope:Scope} {pos py:Pos} {y:Str} {line:Nat} {env:Env} (h1:env.scope.kind=.function) (h2:env.scope.names.lookup y=some .local) (h3:(py.line == pos.line && !(scope.names.any fun (n,k)=>n == y && (k == .local || k == .cell)))=true) :
  swapsWith (.ListComp elt gens scope pos) (some (.Name y py)) line env=pure true:=by
 have e1:(env.blockKind == .function)=true:=by first | (unfold Env.blockKind;rw [h1];rfl) | (unfold Env.blockKind;simp [h1])
 have e2:(env.kindOf y == some .local)=true:=by unfold Env.kindOf;rw [h2];rfl
 show pure (env.blockKind == .function && env.kindOf y == some .local && py.line == pos.line && !(scope.names.any fun (n,k)=>n == y && (k == .local || k == .cell)))=pure true
 rw [e1,e2]
 simp only [Bool.and_eq_true] at h3
 rw [h3.1,h3.2]
 rfl
theorem vD (i:Nat) {y:Str} {spos py:Pos} (hNd:D.N.Nodup) (own:Bool) (N:List Str) (k:Nat) (ix:List Nat) {scope:Scope} {tg iter elt:Expr} {ifs:List Expr} {wi:UI} {g:UG} {tcs:UT} (hi:rM D tg iter wi) (hg:DL (bO D N scope) k tg g) (hif:Fo (bO D N scope) ifs tcs) (he:aV (bO D N scope) elt te)
  (hk:scope.kind=.function:=by rfl) (hcell:∀ y∈scope.names,y.2≠.cell:=by first | decide +kernel | (dsimp only;decide +kernel) | (dsimp only [bO,eA];decide +kernel)) (hnames:∀ y∈scope.names,y.2=.local->scope.names.lookup y.1=some .local:=by first | decide +kernel | (dsimp only;decide +kernel) | (dsimp only [bO,eA];decide +kernel))
  (hfree:∀ y∈scope.names,y.2=.free->D.sc.names.lookup y.1=some .cell\/D.sc.names.lookup y.1=some .free:=by first | decide +kernel | (dsimp only;decide +kernel) | (dsimp only [bO,eA];decide +kernel)) (hone:∀ y∈scope.names,y.2=.free->scope.names.lookup y.1=some .free:=by first | decide +kernel | (dsimp only;decide +kernel) | (dsimp only [bO,eA];decide +kernel))
  (hN:ix.map (fun i=>D.N[i]?)=(N.drop k).map some:=by rfl) (hcap:∀ x∈N.drop k,scope.names.lookup x=some .free:=by first | decide +kernel | (dsimp only;decide +kernel) | (dsimp only [bO,eA];decide +kernel)) (hlen:N.length=k + ix.length:=by rfl)
  (hs:∀ env x,foldedSetIterable iter env x=pure x:=by intro _ _;rfl) (hl1:D.sc.kind=.function:=by rfl) (hl2:D.sc.names.lookup y=some .local:=by rfl) (hl3:(py.line == pos.line && !(scope.names.any fun (n,k)=>n == y && (k == .local || k == .cell)))=true:=by decide +kernel)
  (hiy:D.N[i]?=some y:=by rfl) (hy:Loc D.sc y:=by first | exact Or.inl rfl | exact Or.inr rfl) (hf:D.fn=true\/D.sc.names.lookup y=some .local:=by first | exact .inl rfl | exact .inr rfl):rO D (.Assign [.Name y py] (.ListComp elt [⟨tg,iter,ifs,0⟩] scope pos) spos) (cF (sX own k ix wi g tcs te) (hName i)):=by
 obtain ⟨_,p1,s1⟩:=hi;obtain ⟨_,p2,s2,gk,_⟩:=hg;obtain ⟨_,p3,s3⟩:=hif;obtain ⟨_,p4,s4⟩:=he
 have hN':∀ (j:Nat) x,N[k + j]?=some x->∃ i,ix[j]?=some i/\D.N[i]?=some x:=fun j x e=>by
  have e1:((N.drop k).map some)[j]?=some (some x):=by rw [List.getElem?_map,List.getElem?_drop,e];rfl
  rw [<- hN,List.getElem?_map] at e1
  cases q:ix[j]? with
  | none=>rw [q] at e1;cases e1
  | some i=>rw [q] at e1;exact ⟨i,rfl,Option.some.inj e1⟩
 have hcap':∀ (j:Nat) x,N[k + j]?=some x->scope.names.lookup x=some .free:=fun j x e=>hcap x (List.mem_of_getElem? (i:=j) (by rw [List.getElem?_drop];exact e))
 refine ⟨_,fun X h=>MU (i:=i) (N:=N) (k:=k) (ix:=ix) h.calm (p1 X h) gk hk hcell hnames (fun y hy e=>by show X.env.scope.names.lookup y.1=_\/X.env.scope.names.lookup y.1=_;rw [h.sc];exact hfree y hy e) hone (fun j x e=>by rw [h.N];exact hN' j x e) hcap' hlen
  (fun cl C s H fp=>p2 _ (h.comp N scope cl C s H fp)) (fun cl C s H fp=>p3 _ (h.comp N scope cl C s H fp)) (fun cl C s H fp=>p4 _ (h.comp N scope cl C s H fp)) (hs _) (KA (by rw [h.sc];exact hl1) (by rw [h.sc];exact hl2) hl3) (by rw [h.N];exact hNd) (by rw [h.N];exact hiy) (by rw [h.sc];exact hy) (by rcases hf with z | z;exact .inl (h.fn z y);exact .inr (by rw [h.sc];exact z)),Dl (By s1 s2 s3 s4) (uO i)⟩
end
section
variable {P:Program} {w:World} {K:PySem.W.Frag} {mg:Str->Option Value} {base:Heap}
theorem uG {H:Hp} {M:aF} {N:List Str} {us:List U} {vs:List V} (r:aI K H M us vs):dU K H M (L2.start N vs) (fG N us):=by
 have hl:=r.length
 refine ⟨by simp [L2.start,fG,hl],fun i u e=>?_⟩
 unfold fG at e
 unfold L2.start
 by_cases hi:i < us.length
 ·rw [List.getElem?_append_left (by simpa using hi),List.getElem?_map] at e
  cases q:us[i]? with
  | none=>rw [q] at e;cases e
  | some u' =>
   rw [q] at e
   cases e
   obtain ⟨v,h1,h2⟩:=r.get q
   exact ⟨v,by rw [List.getElem?_append_left (by rw [List.length_map];omega),List.getElem?_map,h1];rfl,h2⟩
 ·rw [List.getElem?_append_right (by simpa using hi),List.getElem?_replicate] at e
  split at e <;> cases e
theorem DI {x:Str} {st:Stmt} {f:Addr} {fd:FuncData} {N ps:List Str} {k:Nat} {sp:bF} {t:US} (F:cL K x x st f fd) (S:aX N ps (aG st))
  (len:∀ us M Q,sp us M Q->us.length=ps.length)
  (h:oC ⟨P,w,K,mg,base,N,aG st,k,true,.none,""⟩ (aU st) t)
  (q:∀ us M Q,sp us M Q->t { nx:=fun _ M'=>iP Q .non M',rt:=iP Q } (fG N us) M):iZ P w K mg base m5 (k + 1) f fd ps (fE K sp):=by
 obtain ⟨t0,h1,h2⟩:=h
 refine F.ok S (fun vs H Q E ⟨us,M,Q',_,r,hs,_⟩=>by rw [<- r.length];exact len us M Q' hs) (fun cdv A outer s H vs Q E hr ⟨us,M,Q',rm,r,hs,c⟩=>?_)
 refine ⟨t0,h1 _ ⟨rfl,rfl,rfl,rfl,rfl,rfl,rfl,hr,rfl,rfl,fun _ _=>rfl,fun h=>absurd rfl h,fun _=>⟨rfl,rfl,rfl⟩⟩,?_⟩
 refine h2 _ (fG N us) H M _ (uG r) rm (q us M Q' hs) _ ⟨fun σ τ H1 M1 s1 rm1 rs1 q1=>?_,fun u v H1 M1 s1 rm1 ru q1=>iP.ok c s1 rm1 ru q1,fun _ _ _ _ _ _ _ z=>z.elim,fun _ _ _ _ _ _ _ z=>z.elim⟩
 exact iP.ok c s1 rm1 m6 q1
theorem qL {x:Str} {st:Stmt} {f:Addr} {fd:FuncData} {N ps:List Str} {k:Nat} {sp:bF} {t:US} (F:cL K x x st f fd) (hm:mg x=some (.ref f)) (S:aX N ps (aG st))
  (bind:∀ (kV doc pm:Value) (an:Option Addr) (cdv ct:Value) (us:List Value),us.length=ps.length->bindArgs (PySem.W.fnOf x x (aW st) (aU st) (aG st) .none kV doc pm an cdv ct) ⟨us,[]⟩=pure (ps.zip us))
  (len:∀ us M Q,sp us M Q->us.length=ps.length)
  (h:oC ⟨P,w,K,mg,base,N,aG st,k,true,.none,""⟩ (aU st) t)
  (q:∀ us M Q,sp us M Q->t { nx:=fun _ M'=>iP Q .non M',rt:=iP Q } (fG N us) M):Callee P w K mg base (k + 1) x sp []:=by
 obtain ⟨t0,h1,h2⟩:=h
 refine ⟨f,fd,ps,[],[],F.ok S (fun vs H Q E ⟨us,M,Q',_,r,hs,_⟩=>by rw [<- r.length];exact len us M Q' hs) (fun cdv A outer s H vs Q E hr ⟨us,M,Q',rm,r,hs,c⟩=>?_),hm,F.kp,F.binds bind,.nil,fun H M=>.nil⟩
 refine ⟨t0,h1 _ ⟨rfl,rfl,rfl,rfl,rfl,rfl,rfl,hr,rfl,rfl,fun _ _=>rfl,fun h=>absurd rfl h,fun _=>⟨rfl,rfl,rfl⟩⟩,?_⟩
 refine h2 _ (fG N us) H M _ (uG r) rm (q us M Q' hs) _ ⟨fun σ τ H1 M1 s1 rm1 rs1 q1=>?_,fun u v H1 M1 s1 rm1 ru q1=>iP.ok c s1 rm1 ru q1,fun _ _ _ _ _ _ _ z=>z.elim,fun _ _ _ _ _ _ _ z=>z.elim⟩
 exact iP.ok c s1 rm1 m6 q1
end
end U2
namespace U2
open PySem L2
theorem cQ:bB "NoneType" "bool"=some false:=by decide +kernel
theorem cY:bB "NoneType" "int"=some false:=by decide +kernel
theorem cZ:bB "NoneType" "str"=some false:=by decide +kernel
theorem cM:bB "NoneType" "tuple"=some false:=by decide +kernel
theorem cS:bB "NoneType" "list"=some false:=by decide +kernel
theorem cR:bB "NoneType" "dict"=some false:=by decide +kernel
theorem e6:bB "bool" "bool"=some true:=by decide +kernel
theorem fQ:bB "bool" "int"=some true:=by decide +kernel
theorem fR:bB "bool" "str"=some false:=by decide +kernel
theorem d7:bB "bool" "tuple"=some false:=by decide +kernel
theorem eW:bB "bool" "list"=some false:=by decide +kernel
theorem fB:bB "bool" "dict"=some false:=by decide +kernel
theorem gC:bB "int" "bool"=some false:=by decide +kernel
theorem gR:bB "int" "int"=some true:=by decide +kernel
theorem gP:bB "int" "str"=some false:=by decide +kernel
theorem e8:bB "int" "tuple"=some false:=by decide +kernel
theorem gG:bB "int" "list"=some false:=by decide +kernel
theorem fY:bB "int" "dict"=some false:=by decide +kernel
theorem fV:bB "str" "bool"=some false:=by decide +kernel
theorem gQ:bB "str" "int"=some false:=by decide +kernel
theorem gS:bB "str" "str"=some true:=by decide +kernel
theorem eV:bB "str" "tuple"=some false:=by decide +kernel
theorem fO:bB "str" "list"=some false:=by decide +kernel
theorem fS:bB "str" "dict"=some false:=by decide +kernel
theorem d8:bB "tuple" "bool"=some false:=by decide +kernel
theorem eT:bB "tuple" "int"=some false:=by decide +kernel
theorem eU:bB "tuple" "str"=some false:=by decide +kernel
theorem dI:bB "tuple" "tuple"=some true:=by decide +kernel
theorem dX:bB "tuple" "list"=some false:=by decide +kernel
theorem d4:bB "tuple" "dict"=some false:=by decide +kernel
theorem eY:bB "list" "bool"=some false:=by decide +kernel
theorem fX:bB "list" "int"=some false:=by decide +kernel
theorem gA:bB "list" "str"=some false:=by decide +kernel
theorem dW:bB "list" "tuple"=some false:=by decide +kernel
theorem eX:bB "list" "list"=some true:=by decide +kernel
theorem fC:bB "list" "dict"=some false:=by decide +kernel
theorem fD:bB "dict" "bool"=some false:=by decide +kernel
theorem gF:bB "dict" "int"=some false:=by decide +kernel
theorem fZ:bB "dict" "str"=some false:=by decide +kernel
theorem dZ:bB "dict" "tuple"=some false:=by decide +kernel
theorem fA:bB "dict" "list"=some false:=by decide +kernel
theorem e7:bB "dict" "dict"=some true:=by decide +kernel
theorem aN {Q:UK} {u:U} {M:aF} (q:Q u M):iP Q u M:=⟨u,M,Sub.refl M,.inl rfl,q⟩
theorem sY {o:Bool} {k:Nat} {ix:List Nat} {wi:UI} {g:UG} {tc:UT} {te:UE} {τ:SU} {M M1:aF} {Q:UK} {S:Src} (f:U->Option U) (hw:∀ R:Src->aF->Prop,R S M1->wi τ M R) (hz:S.xs.length<=sizeLine) (hs:S.ok M1)
  (h:∀ x∈S.xs,∀ M,Sub M1 M->∀ R:Option U->aF->Prop,R (f x) M->g x (eJ k ix τ) M fun τ2 M2=>tc τ2 M2 fun ok M3=>if ok=true then te τ2 M3 fun y M4=>R (some y) M4 else R none M3)
  (q:j2 o (S.xs.filterMap f) M1 Q):sX o k ix wi g tc te τ M Q:=hw _ (Hb (wi:=wi) f hz hs h q)
theorem gE {wi:UI} {g:UG} {tb:US} {D:o6} {τ:SU} {M M1:aF} {S:Src} (hw:∀ R:Src->aF->Prop,R S M1->wi τ M R) (P:Nat->SU->aF->Prop) (h0:P 0 τ M1) (hok:∀ i τ M,P i τ M->S.ok M)
  (turn:∀ i x τ M,S.xs[i]?=some x->P i τ M->g x τ M fun τ2 M2=>tb { D with nx:=P (i + 1),ct:=P (i + 1),bk:=D.nx } τ2 M2) (fin:∀ τ M,P S.xs.length τ M->D.nx τ M):IY wi g tb D τ M:=hw _ ⟨P,h0,hok,turn,fin⟩
theorem J0 {c:UT} {tb:US} {D:o6} {τ:SU} {M:aF} (P:SU->aF->Prop) (μ:SU->aF->Nat) (h0:P τ M)
  (turn:∀ τ M,P τ M->c τ M fun b M1=>if b=true then tb { D with nx:=fun τ' M'=>P τ' M'/\μ τ' M' < μ τ M,ct:=fun τ' M'=>P τ' M'/\μ τ' M' < μ τ M,bk:=D.nx } τ M1 else D.nx τ M1):Cd c tb D τ M:=⟨P,μ,h0,turn⟩
theorem EH {lo:Int} {n i:Nat} {x:U} (h:(iH lo n)[i]?=some x):x=.int (lo + i)/\i < n:=by
 have hi:i < n:=by
  have:=(List.getElem?_eq_some_iff.mp h).1
  simpa [iH] using this
 simp only [iH,List.getElem?_map,List.getElem?_range hi,Option.map_some] at h
 exact ⟨(Option.some.inj h).symm,hi⟩
theorem EZ (lo:Int) (n:Nat):(iH lo n).length=n:=by simp [iH]
end U2
namespace U2
open PySem PySem.Spec PyProof.Rows L2
inductive Fl where
 | int (i:Int) | str (x:Str)
def Fl.d:Fl->PyData
 | .int i=>.int i
 | .str x=>.str x
def Fl.u:Fl->U
 | .int i=>.int i
 | .str x=>.str x
def Fl.v:Fl->V
 | .int i=>.int i
 | .str x=>.str x
def JZ (T:List (Str × Fl)):List (PyData × PyData):=T.map fun p=>(PyData.str p.1,p.2.d)
def bV:List (Str × Fl)->Str->Option Fl
 | [],_=>none
 | (a,b) :: r,z=>if a=z then some b else bV r z
structure mK (P:Program) (w:World) (K:PySem.W.Frag) (d:Addr) (T:List (Str × Fl)):Prop where
 at_:∀ h:Heap,K.In h->StrTab P w h d (JZ T)
theorem Qa (a b:Str):same (.str a) (.str b)=decide (a=b):=by
 by_cases h:a=b <;> simp [same,h]
theorem lookup_tab:∀ (T:List (Str × Fl)) (z:Str),PySem.Spec.lookup (.str z) (JZ T)=(bV T z).map Fl.d
 | [],_=>rfl
 | (a,b) :: r,z=>by
  have ih:=lookup_tab r z
  show (if same (.str a) (.str z)=true then some b.d else PySem.Spec.lookup (.str z) (JZ r))=((if a=z then some b else bV r z).map Fl.d)
  rw [Qa]
  by_cases e:a=z
  ·rw [if_pos (decide_eq_true e),if_pos e];rfl
  ·rw [if_neg (by simpa using e),if_neg e,ih]
def yN (T:List (Str × Fl)):List (Str × PyData):=T.map fun p=>(p.1,p.2.d)
theorem tab_of {P:Program} {w:World} {K:PySem.W.Frag} {d:Addr} {T:List (Str × Fl)} (n:((yN T).map (·.1)).Nodup) (e:KTD.tabLook KTD.flatLooks (fun b=>K.lookup b) d (yN T)=true) (q:KTD.hashesOf (fun b=>K.lookup b) d=(yN T).map fun p=>(PySem.strKind P w).hash p.1):mK P w K d T:=⟨fun h hK=>by
 have:=PySem.W.kt_tab_in P w hK e n q
 unfold yN at this
 rw [List.map_map] at this
 exact this⟩
section
variable {X:Cx} {d:Addr} {T:List (Str × Fl)}
theorem Jv (t:mK X.prog X.w X.K d T):dG X (compareOp .In) (fun x y H Q=>∃ z,x=.str z/\y=.ref d/\Q (.bl (bV T z).isSome) H):=by
 intro pins s σ H x y v u Q I rx ry h
 obtain ⟨z,rfl,rfl,q⟩:=h
 obtain ⟨tk,rfl⟩:=rx
 cases ry
 refine in_strTab (t.at_ _ I.kIn) ?_
 rw [lookup_tab,Option.isSome_map]
 exact ⟨.bl _,H,I.tok _,rfl,q⟩
theorem CJ (t:mK X.prog X.w X.K d T):dG X (compareOp .NotIn) (fun x y H Q=>∃ z,x=.str z/\y=.ref d/\Q (.bl (!(bV T z).isSome)) H):=by
 intro pins s σ H x y v u Q I rx ry h
 obtain ⟨z,rfl,rfl,q⟩:=h
 obtain ⟨tk,rfl⟩:=rx
 cases ry
 refine notin_strTab (t.at_ _ I.kIn) ?_
 rw [lookup_tab,Option.isSome_map]
 exact ⟨.bl _,H,I.tok _,rfl,q⟩
theorem MB {f:Fl} {v:Value} (h:PyProof.V.Flat v f.d):RelV f.v v:=by
 have:=h default
 cases f with
 | int i=>cases this;exact ⟨_,rfl⟩
 | str i=>cases this;exact ⟨_,rfl⟩
theorem N4 {x:Str} {px pos:Pos} {b:Expr} {ta tb:TE} (t:mK X.prog X.w X.K d T) (ha:PE X (.Name x px) ta) (hb:PE X b tb) (hs:u7 b) :
  PE X (.Subscript (.Name x px) b pos) (Bx (fun x y H Q=>∃ z f,x=.ref d/\y=.str z/\bV T z=some f/\Q f.v H) ta tb):=by
 intro pins s σ H Q I h
 refine Subscript_ (Gm ha hb I h fun v u s2 x' y H2 I2 rx ry q=>?_)
 obtain ⟨z,f,rfl,rfl,e,q⟩:=q
 cases rx
 obtain ⟨tk,rfl⟩:=ry
 exact item_strTab (t.at_ _ I2.kIn) (dv:=f.d) (by rw [lookup_tab,e];rfl) (fun v hv=>⟨f.v,H2,I2.tok _,MB hv,q⟩) (hs _ _) (fun r=>rfl)
end
section
variable {D:Dat} {d:Addr} {T:List (Str × Fl)}
abbrev Tab (D:Dat):=mK D.prog D.w D.K
def bP (d:Addr) (T:List (Str × Fl)) (neg:Bool):eL:=fun x y M Q=>match x with
 | .str z=>y=.ref d/\Q (.bl (if neg then !(bV T z).isSome else (bV T z).isSome)) M
 | _=>False
theorem Ds (t:Tab D d T):mY D .In (bP d T false):=⟨⟨_,fun X h=>Jv (by rw [h.prog,h.w,h.K];exact t),fun x y u w H M Q' rm ru rw h Q c=>by
 cases u with
 | str z=>obtain ⟨rfl,h⟩:=h;exact ⟨z,ru.str,rw.ref,c.here rm dD h⟩
 | _=>exact h.elim⟩⟩
theorem xN (t:Tab D d T):mY D .NotIn (bP d T true):=⟨⟨_,fun X h=>CJ (by rw [h.prog,h.w,h.K];exact t),fun x y u w H M Q' rm ru rw h Q c=>by
 cases u with
 | str z=>obtain ⟨rfl,h⟩:=h;exact ⟨z,ru.str,rw.ref,c.here rm dD h⟩
 | _=>exact h.elim⟩⟩
def bY (d:Addr) (T:List (Str × Fl)):eL:=fun x y M Q=>match y with
 | .str z=>x=.ref d/\match bV T z with
  | some f=>Q f.u M
  | none=>False
 | _=>False
theorem O3 {K:PySem.W.Frag} {H:Hp} {M:aF} (f:Fl):aJ K H M f.u f.v:=by cases f;exact cT;exact lS
theorem PC {x:Str} {px pos:Pos} {b:Expr} {ta tb:UE} (t:Tab D d T) (ha:aV D (.Name x px) ta) (hb:aV D b tb) (hs:u7 b:=by intro _ _;rfl):aV D (.Subscript (.Name x px) b pos) (fH (bY d T) ta tb):=by
 obtain ⟨_,p,s⟩:=ha;obtain ⟨_,q,r⟩:=hb
 refine ⟨_,fun X h=>N4 (d:=d) (T:=T) (by rw [h.prog,h.w,h.K];exact t) (p X h) (q X h) hs,rZ (fun x y u w H M Q' rm ru rw h Q c=>?_) s r⟩
 cases w with
 | str z =>
  obtain ⟨rfl,h⟩:=h
  cases e:bV T z with
  | none=>rw [e] at h;exact h.elim
  | some f=>rw [e] at h;exact ⟨z,f,ru.ref,rw.str,e,c.here rm (O3 f) h⟩
 | _=>exact h.elim
def G3 (i:Nat) (f:Addr) (sp:Sp) (t:TA):TE:=fun σ H Q=>Kf i σ H fun v H1=>v=.ref f/\t σ H1 fun vs H2=>sp vs H2 Q E0
structure v9 (P:Program) (w:World) (K:PySem.W.Frag) (mg:Str->Option Value) (base:Heap) (j:Nat) (f:Addr) (sp:bF):Prop where
 ex:∃ fd ps,iZ P w K mg base m5 j f fd ps (fE K sp)/\PySem.W.keepIn K (.ref f)=true/\Binds K fd ps []
def mR (i:Nat) (f:Addr) (sp:bF) (t:UA):UE:=fun τ M Q=>fK i τ M fun v M1=>v=.ref f/\t τ M1 fun us M2=>sp us M2 Q
end
end U2
namespace U2
open PySem PySem.Spec PyProof.Rows L2
def half (j:Int):Nat:=((j + 1) / 2).toNat
theorem Rp {j:Int} (h:0<=j):Builtin.Range.rangeSize 0 j 2=(half j:Nat):=by
 unfold Builtin.Range.rangeSize half
 simp only [show (2:Int) > 0 by decide,if_true]
 split <;> omega
def DG (n:Nat):List U:=(List.range n).map fun (k:Nat)=>U.int ((k:Int) * 2)
theorem PZ (n:Nat):(DG n).length=n:=by simp [DG]
end U2
namespace U2
open PySem PySem.Spec PyProof.Rows L2
def AR:List U->Option (List Str)
 | []=>some []
 | .str b :: r=>(AR r).map (b :: ·)
 | _=>none
theorem Hj {K:PySem.W.Frag} {H:Hp} {M:aF}:∀ {us:List U} {vs:List V} {bs:List Str},aI K H M us vs->AR us=some bs->vs=bs.map V.str
 | [],_,_,r,h=>by cases h;exact r.inv_nil
 | u :: us,_,bs,r,h=>by
  obtain ⟨v,vs',rfl,a,b⟩:=r.inv_cons
  cases u with
  | str y =>
   simp only [AR] at h
   cases e:AR us with
   | none=>rw [e] at h;cases h
   | some cs =>
    rw [e] at h
    cases h
    rw [Hj b e,a.str];rfl
  | _=>cases h
end U2
namespace U2
open PySem L2
theorem xT {α:Type} {a:α} {r:List α}:dM (a :: r) 0=some a:=kN (j:=0) rfl
theorem xH {α:Type} {a b:α} {r:List α}:dM (a :: b :: r) 1=some b:=kN (j:=1) rfl
theorem at2 {α:Type} {a b c:α} {r:List α}:dM (a :: b :: c :: r) 2=some c:=kN (j:=2) rfl
theorem zW {α:Type} {a b c d:α} {r:List α}:dM (a :: b :: c :: d :: r) 3=some d:=kN (j:=3) rfl
theorem uN {α:Type} (l:List α) (i:Int) (h0:0<=i) (h1:i < l.length):∃ c,dM l i=some c:=by
 have hl:i.toNat < l.length:=by omega
 refine ⟨l[i.toNat],?_⟩
 have e:((i.toNat:Nat):Int)=i:=by omega
 have q:=kN (xs:=l) (j:=i.toNat) (v:=l[i.toNat]) (by simp [hl])
 rw [e] at q
 exact q
theorem Bj {α:Type} (l:List α) (a:α):dM (l++[a]) (-1)=some a:=AZ l a
theorem OS {α:Type} (l:List α) (a b:α):dM (l++[a,b]) (-2)=some a:=by
 have e:(l++[a,b]).length=l.length + 2:=by simp
 unfold dM qQ
 rw [e]
 rw [if_neg (by decide),if_pos (by omega)]
 have h:((-2:Int) + ((l.length + 2:Nat):Int)).toNat=l.length:=by omega
 rw [h]
 simp
theorem PU {α:Type} (l:List α) (a b:α):dM (l++[a,b]) (-1)=some b:=by
 have:=AZ (l++[a]) b
 rw [List.append_assoc] at this
 exact this
theorem Rn {α:Type} (l:List α) (a b:α):(l++[a,b]).getLast?=some b:=by simp
theorem Rf {α:Type} (l:List α) (a b:α):(l++[a,b]).dropLast=l++[a]:=by
 rw [show l++[a,b]=(l++[a])++[b] by simp];exact List.dropLast_concat
theorem JS {α:Type} (l:List α) (a:α):(l++[a]).getLast?=some a:=by simp
theorem IQ {α:Type} (l:List α) (a:α):(l++[a]).dropLast=l:=List.dropLast_concat
theorem wJ {α:Type} (a:α) (r:List α):j7 (a :: r) (some 1) none=r:=by
 unfold j7
 simp [HT.bM]
 try omega
theorem lM {M:aF}:view M .non=.non:=rfl
theorem nZ {M:aF} {x:Bool}:view M (.bl x)=.bl x:=rfl
theorem lH {M:aF} {x:Int}:view M (.int x)=.int x:=rfl
theorem lK {M:aF} {x:Str}:view M (.str x)=.str x:=rfl
theorem lL {M:aF} {x:List U}:view M (.tup x)=.tup x:=rfl
theorem lG {M:aF} {x:List U}:view M (.lst x)=.lst x:=rfl
theorem kG {M:aF} {p:Addr} {us:List U}:view (mup M p (.lst us)) (.ref p)=.lst us:=tH aS
theorem dY {M:aF} {p:Addr} {us:List U}:DF (mup M p (.lst us)) (.ref p):=⟨us,kG⟩
theorem cO {o:Bool} {k:Nat} {ix:List Nat} {wi:UI} {g:UG} {te:UE} {τ:SU} {M M1:aF} {Q:UK} {S:Src} (zs:List U) (hw:∀ R:Src->aF->Prop,R S M1->wi τ M R) (hl:zs.length=S.xs.length) (hz:S.xs.length<=sizeLine) (hs:S.ok M1)
  (h:∀ (i:Nat) x y,S.xs[i]?=some x->zs[i]?=some y->∀ M,Sub M1 M->∀ R:UK,R y M->g x (eJ k ix τ) M fun τ2 M2=>te τ2 M2 R)
  (q:j2 o zs M1 Q):sX o k ix wi g (fun _ M Q=>Q true M) te τ M Q:=by
 refine hw _ ⟨hz,fun D hD=>⟨fun i ys M=>ys=zs.take i/\M=mup M1 D (.lst ys)/\i<=S.xs.length,⟨by simp,rfl,Nat.zero_le _⟩,?_,?_,?_⟩⟩
 ·rintro i ys M ⟨rfl,rfl,hi⟩
  refine ⟨fun a e=>?_,aS,?_⟩
  ·have:=hs a e
   rw [aT (fun z=>by subst z;rw [hD] at this;cases this)]
   exact this
  ·rw [List.length_take];omega
 ·rintro i x ys M e ⟨rfl,rfl,hi⟩
  have hlt:i < S.xs.length:=(List.getElem?_eq_some_iff.mp e).1
  have hy:zs[i]?=some zs[i]:=by simp [show i < zs.length by omega]
  have tk:zs.take (i + 1)=zs.take i++[zs[i]]:=by rw [List.take_add_one,hy];rfl
  refine h i x zs[i] e hy (mup M1 D (.lst (zs.take i))) ((Sub.refl M1).mup hD) (fun y M4=>M4 D=some (.lst (zs.take i))/\(zs.take i++[y]=zs.take (i + 1)/\mup M4 D (.lst (zs.take i++[y]))=mup M1 D (.lst (zs.take i++[y]))/\i + 1<=S.xs.length)) ?_
  exact ⟨aS,tk.symm,gM,hlt⟩
 ·rintro ys M ⟨rfl,rfl,hi⟩
  rw [show zs.take S.xs.length=zs by rw [<- hl];exact List.take_length]
  cases o with
  | true=>exact q D hD
  | false=>exact ⟨M1,(Sub.refl M1).mup hD,hD,q⟩
end U2
namespace U2
open PySem PySem.Spec PyProof.Rows L2
section
variable {prog:Program} {w:World} {A:Around} {E:Value->Shared->Prop} {s:Shared}
theorem vF {it t:Addr} {i:Nat} {items} {x:Value} {Q:Value->Shared->Prop} (hit:s.heap.IsTupleIter it t i)
  (ht:s.heap.IsTuple t items) (hx:items[i]?=some x)
  (hQ:∀ h',h'.IsTupleIter it t (i + 1)->Heap.SameBut it s.heap h'->Q x { s with heap:=h' }) :
  wpAny (model prog w) A (Builtin.SmallTypes.nextOf (.ref it)) Q E s:=by
 obtain ⟨o,ho,hc,hd⟩:=id hit
 obtain ⟨ol,hol,_,nl,hdl⟩:=ht
 unfold Builtin.SmallTypes.nextOf
 refine wpAny_bind (wpAny_callSpecial?_slot (name:=Str.ofString "__next__") hit.typeIs PySem.F.slot_tuple_iterator_next
  (wpAny_call_entry PySem.F.slot_tuple_iterator_next hit.typeIs PySem.F.entry_tuple_iterator_next ?_ (PySem.F.args_tuple_iterator_next_1 _)))
 show wpAny _ _ (field (.ref it) 0 >>= _) _ _ s
 refine wpAny_bind (wpAny_field ho hd (x:=.ref t) rfl ?_)
 show wpAny _ _ (if (Value.ref t == Value.none)=true then _ else _) _ _ s
 rw [if_neg (show ¬ ((Value.ref t == Value.none)=true) from Bool.false_ne_true)]
 show wpAny _ _ (field (.ref it) 1 >>= _) _ _ s
 refine wpAny_bind (wpAny_field ho hd (x:=.int i 0) rfl ?_)
 show wpAny _ _ (seqItems? (.ref t) >>= _) _ _ s
 refine wpAny_bind (wpAny_seqItems hol hdl ?_)
 simp only [Int.toNat_natCast,hx]
 refine wpAny_bind (wpAny_setField ho hd (by simp) (wpAny_pure ⟨x,rfl,wpAny_pure (hQ _ ?_ (Heap.SameBut.update ..))⟩))
 exact ⟨_,Heap.get?_update_self _ ho (Obj.isFreed_of_fields (Obj.data_mapFields hd _)),(Obj.cls_mapFields ..).trans hc,by
  rw [Obj.data_mapFields hd];simp [rawInt]⟩
theorem wA {it t:Addr} {i:Nat} {items} {Q:Value->Shared->Prop} (hh:A.handled=none)
  (hit:s.heap.IsTupleIter it t i) (ht:s.heap.IsTuple t items) (hx:items[i]?=none)
  (hE:∀ h' e,Heap.ExtBut it s.heap h'->(∃ o,h'.get? e=some o/\o.cls=.type "StopIteration")->E (.ref e) { s with heap:=h' }) :
  wpAny (model prog w) A (Builtin.SmallTypes.nextOf (.ref it)) Q E s:=by
 obtain ⟨o,ho,hc,hd⟩:=id hit
 obtain ⟨ol,hol,_,nl,hdl⟩:=ht
 unfold Builtin.SmallTypes.nextOf
 refine wpAny_bind (wpAny_callSpecial?_slot (name:=Str.ofString "__next__") hit.typeIs PySem.F.slot_tuple_iterator_next
  (wpAny_call_entry PySem.F.slot_tuple_iterator_next hit.typeIs PySem.F.entry_tuple_iterator_next ?_ (PySem.F.args_tuple_iterator_next_1 _)))
 show wpAny _ _ (field (.ref it) 0 >>= _) _ _ s
 refine wpAny_bind (wpAny_field ho hd (x:=.ref t) rfl ?_)
 show wpAny _ _ (if (Value.ref t == Value.none)=true then _ else _) _ _ s
 rw [if_neg (show ¬ ((Value.ref t == Value.none)=true) from Bool.false_ne_true)]
 show wpAny _ _ (field (.ref it) 1 >>= _) _ _ s
 refine wpAny_bind (wpAny_field ho hd (x:=.int i 0) rfl ?_)
 show wpAny _ _ (seqItems? (.ref t) >>= _) _ _ s
 refine wpAny_bind (wpAny_seqItems hol hdl ?_)
 simp only [Int.toNat_natCast,hx]
 refine wpAny_bind (wpAny_rule (wpAny_bind (wpAny_setField ho hd (by simp) ?_)))
 show wpAny _ _ (newExc (.type "StopIteration") [] >>= _) _ _ _
 refine wpAny_bind ?_
 simp only [newExc,newTuple]
 refine wpAny_bind (wpAny_newObj_type ?_ (by size_fits))
 refine wpAny_bind (m:=firstArgMember _ _) (wpAny_of_eq (a:=Value.none) (by first | rfl | (simp only [firstArgMember];rfl)) ?_)
 refine wpAny_newObj_type ?_ (by size_fits)
 simp only [raiseNew]
 refine wpAny_bind (wpAny_handled ?_)
 first | rw [show A.in1.handled=none from hh] | rw [hh]
 refine wpAny_bind (wpAny_pure (wpAny_throw ?_))
 exact hE _ _ (((Heap.SameBut.update ..).extBut.push _).push _) ⟨_,Heap.get?_push_size _ rfl,rfl⟩
theorem CM {prog:Program} {w:World} {A:Around} (hh:A.handled=none) (it l:Addr) (hne:l≠it) (items:Array Value) :
  Draws prog w A it [it,l] items.size (fun i v=>items[i]?=some v) (fun i h=>h.IsTupleIter it l i/\h.IsTuple l items) where
 live:=fun _ _ st=>let ⟨o,ho,_⟩:=st.1;⟨o,ho⟩
 frame:=fun _ _ _ st hk=>⟨st.1.at fun o e=>hk it (by simp) o e,let ⟨o,ho,r⟩:=st.2;⟨o,hk l (by simp) o ho,r⟩⟩
 item:=fun i s Q E hi st hQ=>by
  refine vF st.1 st.2 (x:=items[i]) (by simp [hi]) fun h' hit' hs'=>?_
  exact hQ _ h' s.toks (by simp [hi]) ⟨hit',let ⟨o,ho,r⟩:=st.2;⟨o,hs'.extBut l o hne ho,r⟩⟩ hs'
 done:=fun s Q E st hE=>wA hh st.1 st.2 (by simp) hE
end
def oN (b:Bool) (K:PySem.W.Frag) (H:Hp) (a:Addr) (xs:List V):Prop:=match b with
 | true=>eO K H a xs
 | false=>fW K H a xs
def lB (b:Bool) (h:Heap) (a:Addr) (xs:Array Value):Prop:=match b with
 | true=>h.IsList a xs
 | false=>h.IsTuple a xs
def mP (b:Bool) (h:Heap) (it a:Addr) (i:Nat):Prop:=match b with
 | true=>h.IsListIter it a i
 | false=>h.IsTupleIter it a i
def QV:Bool->String
 | true=>"list"
 | false=>"tuple"
def tX:Bool->String
 | true=>"list_iterator"
 | false=>"tuple_iterator"
theorem lJ {h:Heap} {b b':Addr} {o o':Obj} {n n':String} (x:h.get? b=some o) (y:h.get? b'=some o') (p:o.cls=.type n) (q:o'.cls=.type n') (ne:n≠n'):b≠b':=fun z=>by
 subst z;rw [x] at y;cases y;rw [p] at q;exact ne (Value.type.inj q)
theorem lB.obj {b:Bool} {h:Heap} {a:Addr} {xs:Array Value} (p:lB b h a xs):∃ o n,h.get? a=some o/\o.cls=.type (QV b)/\o.data=.seq xs n:=by
 cases b <;> (obtain ⟨o,e,c,n,d⟩:=p;exact ⟨o,n,e,c,d⟩)
theorem mP.obj {b:Bool} {h:Heap} {it a:Addr} {i:Nat} (p:mP b h it a i):∃ o,h.get? it=some o/\o.cls=.type (tX b)/\o.data=.fields #[.ref a,.int i 0]:=by
 cases b <;> exact p
theorem mP.of {b:Bool} {h:Heap} {it a:Addr} {i:Nat} {o:Obj} (e:h.get? it=some o) (c:o.cls=.type (tX b)) (d:o.data=.fields #[.ref a,.int i 0]):mP b h it a i:=by
 cases b <;> exact ⟨o,e,c,d⟩
theorem mP.at {b:Bool} {h h':Heap} {it a:Addr} {i:Nat} (p:mP b h it a i) (k:∀ o,h.get? it=some o->h'.get? it=some o):mP b h' it a i :=
 let ⟨o,e,c,d⟩:=p.obj;.of (k o e) c d
theorem lB.ne {b b':Bool} {h:Heap} {a it c:Addr} {xs:Array Value} {i:Nat} (p:lB b h a xs) (q:mP b' h it c i):a≠it :=
 let ⟨_,_,e,c,_⟩:=p.obj;let ⟨_,e',c',_⟩:=q.obj;lJ e e' c c' (by cases b <;> cases b' <;> decide)
theorem wX {X:Cx} {pins:List (Addr × Obj)} {σ:L2.St} {H:Hp} {s:Shared} {b:Bool} {a:Addr} {xs:List V} (I:L2.Inv X pins σ H s) (h:oN b X.K H a xs):∃ its:List Value,Vals xs its/\lB b s.heap a its.toArray/\xs.length<=sizeLine:=by
 cases b
 ·exact I.tuple h
 ·obtain ⟨its,r,p,z⟩:=I.list h;exact ⟨its,r,p.isList,z⟩
theorem OY {X:Cx} {pins:List (Addr × Obj)} {σ:L2.St} {H:Hp} {s:Shared} {b:Bool} {a:Addr} {xs ys:List V} (I:L2.Inv X pins σ H s) (h:oN b X.K H a xs) (h':oN b X.K H a ys):xs=ys:=by
 cases b
 ·exact I.tuple_inj h h'
 ·exact I.list_inj h h'
theorem nF {prog:Program} {w:World} {A:Around} (b:Bool) (hh:A.handled=none) (it l:Addr) (hne:l≠it) (items:Array Value) :
  Draws prog w A it [it,l] items.size (fun i v=>items[i]?=some v) (fun i h=>mP b h it l i/\lB b h l items):=by
 cases b
 ·exact CM hh it l hne items
 ·exact Draws.list hh it l hne items
def GJ (b:Bool) (K:PySem.W.Frag) (H:Hp) (M:aF) (a:Addr) (vs:List V):Prop:=∀ H1 M1,aR H M H1 M1->oN b K H1 a vs
theorem BV {K:PySem.W.Frag} {H:Hp} {M:aF} {a:Addr} {vs:List V} (m:M a=none/\H a=some (.tup vs)):GJ false K H M a vs:=fun _ _ s=>.inl (.inl (s.to m.2 m.1).1)
theorem B5 {K:PySem.W.Frag} {H:Hp} {M:aF} {a:Addr} {vs:List V} (m:(M a=none/\Rd H a (.lst vs))\/KL K a vs):GJ true K H M a vs:=fun _ _ s=>by
 rcases m with ⟨m,h⟩ | k
 ·exact .inl (Rd.stp s m h).2
 ·exact .inr k
section
variable {prog:Program} {w:World} {A:Around} {E:Value->Shared->Prop} {s:Shared}
theorem v5 (l:Addr) (items:Array Value) (n:Nat) (dd:Option Addr) (sl:Array (Option Value)) :
  Meets (Builtin.«enumerate.__new__» ⟨[.type "enumerate",.ref l],[]⟩) (fun _ R s=>s.heap.get? l=some { cls:=.type "tuple",dict:=dd,data:=.seq items n,slots:=sl } /\
   R (.ok (.ret (.ref (s.heap.push { cls:=.type "tuple_iterator",data:=.fields #[.ref l,.int 0 0] }).objs.size)))
    { s with heap:=(s.heap.push { cls:=.type "tuple_iterator",data:=.fields #[.ref l,.int 0 0] }).push { cls:=.type "enumerate",data:=.fields #[.none,.bool false,.ref s.heap.objs.size,rawInt 0,.none,.none] } }) :=
 .of_wp fun prog w A R s h=>by
  obtain ⟨hp,g,d,tk,os⟩:=s;obtain ⟨hl,h⟩:=h
  have hsub:=PySem.sub_enumerate
  have hL:Heap.IsTuple (Shared.heap ⟨hp,g,d,tk,os⟩) l items:=⟨_,hl,rfl,n,rfl⟩
  wp_walk using wpAny_loadPart' hl
  refine wpAny_stack_any fun st=>wpAny_pure ?_
  split
  ·rename_i c _ _ _ _ _
   cases (c == Value.type "enumerate")
   ·wp_walk using wpAny_loadPart' hl,wpAny_pyIter_tuple hL
    exact ⟨_,rfl,h⟩
   ·wp_walk using wpAny_loadPart' hl,wpAny_pyIter_tuple hL
    exact ⟨_,rfl,h⟩
  ·wp_walk using wpAny_loadPart' hl,wpAny_pyIter_tuple hL
   exact ⟨_,rfl,h⟩
theorem w6 (l:Addr) (items:Array Value) (n:Nat) (dd:Option Addr) (sl:Array (Option Value)) :
  Meets (Builtin.«enumerate.__new__» ⟨[.type "enumerate",.ref l],[]⟩) (fun _ R s=>s.heap.get? l=some { cls:=.type "list",dict:=dd,data:=.seq items n,slots:=sl } /\
   R (.ok (.ret (.ref (s.heap.push { cls:=.type "list_iterator",data:=.fields #[.ref l,.int 0 0] }).objs.size)))
    { s with heap:=(s.heap.push { cls:=.type "list_iterator",data:=.fields #[.ref l,.int 0 0] }).push { cls:=.type "enumerate",data:=.fields #[.none,.bool false,.ref s.heap.objs.size,rawInt 0,.none,.none] } }) :=
 .of_wp fun prog w A R s h=>by
  obtain ⟨hp,g,d,tk,os⟩:=s;obtain ⟨hl,h⟩:=h
  have hsub:=PySem.sub_enumerate
  have hL:Heap.IsList (Shared.heap ⟨hp,g,d,tk,os⟩) l items:=⟨_,hl,rfl,n,rfl⟩
  wp_walk using wpAny_loadPart' hl
  refine wpAny_stack_any fun st=>wpAny_pure ?_
  split
  ·rename_i c _ _ _ _ _
   cases (c == Value.type "enumerate")
   ·wp_walk using wpAny_loadPart' hl,wpAny_pyIter_list hL
    exact ⟨_,rfl,h⟩
   ·wp_walk using wpAny_loadPart' hl,wpAny_pyIter_list hL
    exact ⟨_,rfl,h⟩
  ·wp_walk using wpAny_loadPart' hl,wpAny_pyIter_list hL
   exact ⟨_,rfl,h⟩
end
theorem rL {X:Cx} {pins:List (Addr × Obj)} {σ:L2.St} {H:Hp} {s:Shared} {h':Heap} {ch:List Addr} {T:Addr} {o:HO} {tk:Nat} (I:L2.Inv X pins σ H s) (hf:∀ b∈ch,tG X pins H b)
  (k:∀ b o,b ∉ ch->s.heap.get? b=some o->h'.get? b=some o) (hT:s.heap.objs.size<=T) (new:bR X.prog X.w (upd H T o) h' T o):L2.Inv X pins σ (upd H T o) { s with heap:=h',toks:=tk }:=by
 have hn:H T=none:=I.hok.fresh hT
 refine I.call' (ch:=ch) (H':=upd H T o) rfl ⟨fun b u q n hb hx=>k b u hx q,fun b u q n hb hx=>⟨u.slots,k b u hx q⟩,fun b u q n hx=>?_,fun b u q hx=>⟨u,k b u hx q⟩,fun b xs q=>by rw [bL (cN q hn)];exact q,fun b u xs q=>by rw [bL (cN q hn)];exact q,
  fun b ps q=>⟨#[],by rw [bL (cN q hn),q];simp⟩⟩ (fun a u e=>?_) I.bare fun b hb=>⟨(hf b hb).2.2.2.1,(hf b hb).2.1,(hf b hb).2.2.2.2.1,(hf b hb).2.2.2.2.2⟩
 ·rw [bL (Nat.ne_of_lt (Nat.lt_of_lt_of_le (Heap.lt_size q) hT))];exact n
 ·by_cases ha:a=T
  ·subst ha;rw [cJ] at e;cases e;exact new
  ·rw [bL ha] at e
   refine (I.hok a u e).stay (fun b z hb q=>k b z (fun hc=>?_) q) (fun c q=>by rw [bL (cN q hn)];exact q) fun c xs q=>by rw [bL (cN q hn)];exact q
   have hnone:=(hf b hc).1
   rcases hb with rfl | hb
   ·rw [hnone] at e;cases e
   ·rw [hnone] at hb;cases hb
def OG (f:Bool) (K:PySem.W.Frag) (a:Addr):It :=
 ⟨fun i H=>∃ xs x,oN f K H a xs/\xs[i]?=some x,fun i H x H'=>∃ p v,(∀ xs,oN f K H a xs->xs[i]?=some v)/\H p=none/\x=.ref p/\H'=upd H p (.tup [.int i,v]),fun i H=>∃ xs,oN f K H a xs/\xs.length=i⟩
theorem Ha {P:Program} {w:World} {K:PySem.W.Frag} {elts:List Expr} {kk:Nat} {pos:Pos} (f:Bool) (a it e:Addr):Turn P w K (.Tuple elts kk pos) (OG f K a) [e,it] e (fun i h=>(∃ old,IsEnum h e it i old)/\mP f h it a i) where
 mem:=by simp
 obj:=fun i h st b hb=>by
  obtain ⟨⟨old,he⟩,hi⟩:=st
  obtain ⟨o,ho,hc,hd⟩:=hi.obj
  have:b=e\/b=it:=by simpa using hb
  rcases this with rfl | rfl
  ·exact ⟨_,he,fun v z=>by
    have z':Data.fields _=Data.cell v:=z
    cases z'⟩
  ·exact ⟨o,ho,fun v z=>by rw [hd] at z;cases z⟩
 keep:=fun i h h' st k=>let ⟨⟨old,he⟩,hi⟩:=st;⟨⟨old,k e (by simp) _ he⟩,hi.at fun o q=>k it (by simp) o q⟩
 item:=by
  intro X hP hw hK hc i pins s σ H E I hf st hg
  subst hP hw hK
  obtain ⟨⟨old,he⟩,hit⟩:=st
  obtain ⟨xs,x,hq,hx⟩:=hg
  obtain ⟨its,rv,p,hz⟩:=wX I hq
  obtain ⟨u,hu,ru⟩:=rv.get hx
  have p':lB f s.heap a its.toArray:=p
  obtain ⟨oi,hoi,hci,hdi⟩:=hit.obj
  obtain ⟨oa,na,hoa,hca,hda⟩:=p'.obj
  have n1:a≠it:=p'.ne hit
  have n2:e≠it:=lJ he hoi rfl hci (by cases f <;> decide)
  have n3:e≠a:=lJ he hoa rfl hca (by cases f <;> decide)
  have W:=WalksT.enumerateD (prog:=X.prog) (w:=X.w) (A:=X.A) (nF f (A:=X.A.in1) (show X.A.in1.handled=none from I.ok.hd hc) it a n1 its.toArray) e n2 (by simp [n2,n3]) (by simp)
  have hlt:i < its.toArray.size:=by
   have:=(List.getElem?_eq_some_iff.mp hu).1
   simpa using this
  have hD:=nF f (prog:=X.prog) (w:=X.w) (A:=X.A.in1) (show X.A.in1.handled=none from I.ok.hd hc) it a n1 its.toArray
  refine wpAny_pyNext_enum_itemD hD he ⟨hit,p'⟩ hlt n2 (by simp [n2,n3]) fun y h' tk hy ho0 hs0 hT0 hsz0 hk0=>?_
  have helt:e < s.heap.objs.size:=Heap.lt_size he
  have hilt:it < s.heap.objs.size:=Heap.lt_size hoi
  have iK:iY h' s.heap.objs.size #[Value.int i tk,y]:=⟨_,hT0,rfl,rfl,_,rfl⟩
  have hk:∀ b o,b ∉ [e,it]->s.heap.get? b=some o->h'.get? b=some o:=fun b o hb z=>hk0 b o (fun e'=>hb (by simp [e'])) (fun e'=>hb (by simp [e'])) z
  have hMid:=(⟨⟨_,ho0⟩,hs0,Nat.ne_of_gt helt,Nat.ne_of_gt hilt⟩:(∃ x,IsEnumOut h' e it ((i:Int) + 1) x s.heap.objs.size)/\_/\s.heap.objs.size≠e/\s.heap.objs.size≠it)
  obtain ⟨T,hTe⟩:∃ T,T=s.heap.objs.size:=⟨_,rfl⟩
  rw [<- hTe] at iK hMid ⊢
  have hT:s.heap.objs.size<=T:=Nat.le_of_eq hTe.symm
  refine ⟨.ref T,rfl,W.go elts kk pos i T _ _ E hMid fun h'' hSt hk2=>?_⟩
  have hy':y=u:=by
   have h3:its[i]?=some y:=by simpa using hy
   rw [hu] at h3;exact (Option.some.inj h3).symm
  subst hy'
  have hTT:iY h'' T #[.int i tk,y]:=let ⟨o,ho,r⟩:=iK;⟨o,hk2 T o (W.apart i T _ hMid) ho,r⟩
  refine ⟨.ref T,upd H T (.tup [.int i,x]),rL (s:=s) (h':=h'') (tk:=tk + 1) (ch:=[e,it]) I hf (fun b o hb q=>hk2 b o (by simpa using hb) (hk b o (by simpa using hb) q)) hT ⟨by show 2<=sizeLine;decide,[.int i tk,y],.cons ⟨tk,rfl⟩ (.cons ru .nil),hTT⟩,rfl,⟨T,x,fun ys hy=>by rw [<- OY I hq hy];exact hx,I.hok.fresh hT,rfl,rfl⟩,⟨by simpa using hSt.1,hSt.2.1⟩,fun b hb=>?_⟩
  have hn:=(hf b hb).1
  rw [bL (Nat.ne_of_lt (Nat.lt_of_lt_of_le ?_ hT))]
  ·exact hn
  ·have:b=e\/b=it:=by simpa using hb
   rcases this with rfl | rfl
   ·exact Heap.lt_size he
   ·exact Heap.lt_size hoi
 done:=by
  intro X hP hw hK hc i pins s σ H E I hf st hg
  subst hP hw hK
  obtain ⟨⟨old,he⟩,hit⟩:=st
  obtain ⟨xs,hq,hx⟩:=hg
  obtain ⟨its,rv,p,hz⟩:=wX I hq
  have p':lB f s.heap a its.toArray:=p
  obtain ⟨oi,hoi,hci,hdi⟩:=hit.obj
  obtain ⟨oa,na,hoa,hca,hda⟩:=p'.obj
  have n1:a≠it:=p'.ne hit
  have n2:e≠it:=lJ he hoi rfl hci (by cases f <;> decide)
  have n3:e≠a:=lJ he hoa rfl hca (by cases f <;> decide)
  have W:=WalksT.enumerateD (prog:=X.prog) (w:=X.w) (A:=X.A) (nF f (A:=X.A.in1) (show X.A.in1.handled=none from I.ok.hd hc) it a n1 its.toArray) e n2 (by simp [n2,n3]) (by simp)
  have hi:i=its.toArray.size:=by rw [List.size_toArray,<- rv.length];exact hx.symm
  subst hi
  refine W.done s _ E ⟨⟨old,he⟩,hit,p'⟩ fun h' tk hk=>⟨rfl,?_⟩
  have:=I.call' (ch:=[e,it]) (H':=H) (s':={ s with heap:=h',toks:=tk }) rfl ⟨fun b u q n hb hx=>hk b u (by simpa using hx) q,fun b u q n hb hx=>⟨u.slots,hk b u (by simpa using hx) q⟩,fun b u q n hx=>n,fun b u q hx=>⟨u,hk b u (by simpa using hx) q⟩,fun b xs q=>q,fun b u xs q=>q,fun b ps q=>⟨#[],by rw [q];simp⟩⟩
   (fun a u e'=>?_) I.bare fun b hb=>⟨(hf b hb).2.2.2.1,(hf b hb).2.1,(hf b hb).2.2.2.2.1,(hf b hb).2.2.2.2.2⟩
  ·exact this
  ·refine (I.hok a u e').stay (fun b z hb q=>hk b z (fun hc=>?_) q) (fun _ q=>q) fun _ _ q=>q
   have hnone:=(hf b (by simpa using hc)).1
   rcases hb with rfl | hb
   ·rw [hnone] at e';cases e'
   ·rw [hnone] at hb;cases hb
 self:=fun _ _ _ _ _ st h=>let ⟨⟨old,he⟩,_⟩:=st;wpAny_pyIter_enum he h
theorem FK {prog:Program} {w:World} {A:Around} {E:Value->Shared->Prop} {s:Shared} {f:Bool} {l:Addr} {items:Array Value} {Q:Value->Shared->Prop}
  (hl:lB f s.heap l items)
  (h:∀ h',IsEnum h' (s.heap.objs.size + 1) s.heap.objs.size 0 .none->mP f h' s.heap.objs.size l 0->h'.objs.size=s.heap.objs.size + 2 ->
   (∀ b o,s.heap.get? b=some o->h'.get? b=some o)->Q (.ref (s.heap.objs.size + 1)) { s with heap:=h' }) :
  wpAny (model prog w) A (call (.type "enumerate") [.ref l]) Q E s:=by
 have fin:Q (.ref (s.heap.push { cls:=.type (tX f),data:=.fields #[.ref l,.int 0 0] }).objs.size)
   { s with heap:=(s.heap.push { cls:=.type (tX f),data:=.fields #[.ref l,.int 0 0] }).push { cls:=.type "enumerate",data:=.fields #[.none,.bool false,.ref s.heap.objs.size,rawInt 0,.none,.none] } } /\
   ((s.heap.push { cls:=.type (tX f),data:=.fields #[.ref l,.int 0 0] }).push { cls:=.type "enumerate",data:=.fields #[.none,.bool false,.ref s.heap.objs.size,rawInt 0,.none,.none] }).get? (s.heap.push { cls:=.type (tX f),data:=.fields #[.ref l,.int 0 0] }).objs.size=some { cls:=.type "enumerate",data:=.fields #[.none,.bool false,.ref s.heap.objs.size,rawInt 0,.none,.none] }:=by
  have hz:(s.heap.push { cls:=.type (tX f),data:=.fields #[.ref l,.int 0 0] }).objs.size=s.heap.objs.size + 1:=Heap.size_push ..
  have he:=Heap.get?_push_size (s.heap.push { cls:=.type (tX f),data:=.fields #[.ref l,.int 0 0] })
   (o:={ cls:=.type "enumerate",data:=.fields #[.none,.bool false,.ref s.heap.objs.size,rawInt 0,.none,.none] }) rfl
  refine ⟨?_,he⟩
  rw [hz] at he
  rw [hz]
  exact h _ he (.of (Heap.get?_push_of_some _ (Heap.get?_push_size _ rfl)) rfl rfl) (by rw [Heap.size_push,hz]) fun b o x=>Heap.get?_push_of_some _ (Heap.get?_push_of_some _ x)
 obtain ⟨⟨oc,od,odt,osl⟩,n,ho,hc,hd⟩:=hl.obj
 have hc':oc=.type (QV f):=hc
 have hd':odt=.seq items n:=hd
 subst hc' hd'
 cases f
 ·exact callType_new F.called_enumerate (by decide) (F.typeCall_enumerate_1 _) (F.newCall_enumerate_1 _) (fun obj=>F.args_object_init_2 obj _) F.entry_enumerate_new
   (v5 l items n od osl) ⟨ho,⟨_,fin.2,rfl⟩,fin.1⟩
 ·exact callType_new F.called_enumerate (by decide) (F.typeCall_enumerate_1 _) (F.newCall_enumerate_1 _) (fun obj=>F.args_object_init_2 obj _) F.entry_enumerate_new
   (w6 l items n od osl) ⟨ho,⟨_,fin.2,rfl⟩,fin.1⟩
def F5 (f:Bool) (K:PySem.W.Frag) (ta:TA):TI:=fun σ H R=>ta σ H fun vs H1=>∃ a,vs=[.ref a]/\(∃ xs,oN f K H1 a xs)/\R (OG f K a) H1
theorem DQ {f:Bool} {X:Cx} {elts:List Expr} {kk:Nat} {tpos:Pos} {a:Expr} {ta:TA} {p pos:Pos} (hg:Gl X "enumerate") (hm:X.mg "enumerate"=none) (ha:PA X [a] ta) (hs:starEach [a] X.env=[(false,eval a X.env)]) :
  PI X (.Tuple elts kk tpos) (.Call (.Name "enumerate" p) [a] [] pos) (F5 f X.K ta):=by
 intro pins s σ H R I h
 refine Call_ (jO I hg hm boot_enumerate (PyProof.Rows.callWith_type1 (bG (ha pos pins s σ H _ I h) fun us s1 ⟨vs,H1,I1,r1,q1⟩=>?_) hs rfl))
 obtain ⟨a,e,⟨xs,hq⟩,q⟩:=q1
 subst e
 cases r1 with
 | cons r rr =>
  cases rr
  cases r
  obtain ⟨its,rv,p,hz⟩:=wX I1 hq
  refine FK p fun h' he hit hsz hk=>?_
  refine wpAny_pyIter_enum (s:={ s1 with heap:=h' }) he ?_
  have I2:L2.Inv X pins σ H1 { s1 with heap:=h',toks:=s1.toks }:=I1.kept hk
  refine ⟨s1.heap.objs.size + 1,[s1.heap.objs.size + 1,s1.heap.objs.size],_,_,H1,rfl,I2,Ha f a s1.heap.objs.size (s1.heap.objs.size + 1),⟨⟨_,he⟩,hit⟩,fun b hb=>?_,q⟩
  have e:b=s1.heap.objs.size + 1\/b=s1.heap.objs.size:=by simpa using hb
  rcases e with rfl | rfl
  ·exact I1.fpOk (Nat.le_succ _) (I1.hok.fresh (Nat.le_succ _))
  ·exact I1.fpOk (Nat.le_refl _) (I1.hok.fresh (Nat.le_refl _))
def numbered (us:List U):List U:=us.zipIdx.map fun p=>.tup [.int (p.2:Nat),p.1]
theorem pT (us:List U):(numbered us).length=us.length:=by simp [numbered]
theorem pK {us:List U} {i:Nat} {x:U} (h:(numbered us)[i]?=some x):∃ u,us[i]?=some u/\x=.tup [.int i,u]:=by
 simp only [numbered,List.getElem?_map,List.getElem?_zipIdx] at h
 cases e:us[i]? with
 | none=>rw [e] at h;simp at h
 | some u=>rw [e] at h;simp at h;exact ⟨u,rfl,h.symm⟩
theorem zK {f:Bool} {K:PySem.W.Frag} {a:Addr} {us:List U} {vs:List V} {H:Hp} {M:aF} (sq:GJ f K H M a vs) (r:aI K H M us vs):Walk K (OG f K a) ⟨none,numbered us⟩ H M:=by
 refine ⟨fun H1 M1 s rm _ i u e=>?_,fun H1 M1 s rm _=>⟨vs,sq H1 M1 s,by show vs.length=(numbered us).length;rw [pT,r.length]⟩⟩
 obtain ⟨w,e1,rfl⟩:=pK e
 obtain ⟨v,e2,ru⟩:=r.get e1
 refine ⟨⟨vs,v,sq H1 M1 s,e2⟩,fun x H2 y=>?_⟩
 obtain ⟨p,v',y,hp,rfl,rfl⟩:=y
 have:=y vs (sq _ M1 s)
 rw [e2] at this;cases this
 have st:=aR.laid (o:=.tup [.int i,v]) rm hp
 have rr:aI K H1 M1 [.int i,w] [.int i,v]:=by
  simp only [aI]
  exact ⟨_,_,rfl,cT,_,_,rfl,ru.stp s,rfl⟩
 exact ⟨st,rm.laid hp,v7 (rm.no hp) cJ (rr.stp st)⟩
def nS (ta:UA):UI:=fun τ M R=>ta τ M fun us M1=>match us with
 | [.tup us]=>R ⟨none,numbered us⟩ M1
 | _=>False
theorem Jo {K:PySem.W.Frag} {ta:TA} {ta':UA} (h:j5 K ta ta'):rF K (F5 false K ta) (nS ta'):=fun σ τ H M R' rs rm q R c=>h σ τ H M _ rs rm q _ fun us vs M1 H1 s1 rm1 ru h1=>by
 split at h1
 ·rename_i xs
  obtain ⟨v,rfl,a⟩:=ru.one
  simp only [aJ] at a
  obtain ⟨a,vs,rfl,m,r⟩:=a
  refine ⟨a,rfl,⟨vs,?_⟩,c _ _ M1 H1 s1 rm1 (zK (BV m) r) h1⟩
  exact .inl (.inl m.2)
 ·exact h1.elim
theorem t7 {D:Dat} {elts:List Expr} {kk:Nat} {tpos:Pos} {a:Expr} {p pos:Pos} {ta:UA} (hm:D.mg "enumerate"=none) (ha:lP D [a] ta) (hg:D.sc.names.lookup ("enumerate":Str)=some .globalImplicit:=by rfl) (hs:∀ env,starEach [a] env=[(false,eval a env)]:=by intro _;rfl):rM D (.Tuple elts kk tpos) (.Call (.Name "enumerate" p) [a] [] pos) (nS ta):=by
 obtain ⟨_,q,s⟩:=ha
 exact ⟨_,fun X h=>h.K ▸ DQ (by show X.env.scope.names.lookup _=_;rw [h.sc];exact hg) (by rw [h.mg];exact hm) (q X h) (hs _),Jo s⟩
def n6 (ta:UA):UI:=fun τ M R=>ta τ M fun us M1=>match us with
 | [.lst us]=>R ⟨none,numbered us⟩ M1
 | _=>False
theorem Gy {K:PySem.W.Frag} {ta:TA} {ta':UA} (h:j5 K ta ta'):rF K (F5 true K ta) (n6 ta'):=fun σ τ H M R' rs rm q R c=>h σ τ H M _ rs rm q _ fun us vs M1 H1 s1 rm1 ru h1=>by
 split at h1
 ·rename_i xs
  obtain ⟨v,rfl,a⟩:=ru.one
  simp only [aJ] at a
  obtain ⟨a,vs,rfl,m,r⟩:=a
  refine ⟨a,rfl,⟨vs,?_⟩,c _ _ M1 H1 s1 rm1 (zK (B5 m) r) h1⟩
  rcases m with ⟨_,m⟩ | k
  ·exact .inl m
  ·exact .inr k
 ·exact h1.elim
theorem tV {D:Dat} {elts:List Expr} {kk:Nat} {tpos:Pos} {a:Expr} {p pos:Pos} {ta:UA} (hm:D.mg "enumerate"=none) (ha:lP D [a] ta) (hg:D.sc.names.lookup ("enumerate":Str)=some .globalImplicit:=by rfl) (hs:∀ env,starEach [a] env=[(false,eval a env)]:=by intro _;rfl):rM D (.Tuple elts kk tpos) (.Call (.Name "enumerate" p) [a] [] pos) (n6 ta):=by
 obtain ⟨_,q,s⟩:=ha
 exact ⟨_,fun X h=>h.K ▸ DQ (by show X.env.scope.names.lookup _=_;rw [h.sc];exact hg) (by rw [h.mg];exact hm) (q X h) (hs _),Gy s⟩
end U2
namespace U2
open PySem PySem.Spec PyProof.Rows L2
mutual
def iD (K:PySem.W.Frag) (H:Hp):PyData->V->Prop
 | .none,v=>v=.non
 | .bool b,v=>v=.bl b
 | .int i,v=>v=.int i
 | .str z,v=>v=.str z
 | .list ds,v=>∃ a xs,v=.ref a/\eO K H a xs/\iA K H ds xs
 | .tuple ds,v=>∃ a xs,v=.ref a/\fW K H a xs/\iA K H ds xs
 | .dict _,_=>False
def iA (K:PySem.W.Frag) (H:Hp):List PyData->List V->Prop
 | [],vs=>vs=[]
 | d :: ds,vs=>∃ v vs',vs=v :: vs'/\iD K H d v/\iA K H ds vs'
end
mutual
theorem iD.reads {X:Cx} {pins:List (Addr × Obj)} {σ:L2.St} {H:Hp} {s:Shared} (I:L2.Inv X pins σ H s):∀ {d:PyData} {v:V} {u:Value},iD X.K H d v->RelV v u->∃ as,Reads s.heap u d as
 | .none,v,u,h,r=>by simp only [iD] at h;subst h;cases r;exact ⟨_,.none⟩
 | .bool b,v,u,h,r=>by simp only [iD] at h;subst h;cases r;exact ⟨_,.bool b⟩
 | .int i,v,u,h,r=>by simp only [iD] at h;subst h;obtain ⟨t,rfl⟩:=r;exact ⟨_,.int i t⟩
 | .str z,v,u,h,r=>by simp only [iD] at h;subst h;obtain ⟨t,rfl⟩:=r;exact ⟨_,.str z t⟩
 | .list ds,v,u,h,r=>by
  simp only [iD] at h
  obtain ⟨a,xs,rfl,q,hs⟩:=h
  cases r
  obtain ⟨its,rv,p,hz⟩:=I.list q
  obtain ⟨as,ra⟩:=iA.reads I hs rv
  obtain ⟨o,h1,h2,n,h3⟩:=p.isList
  exact ⟨_,.list h1 h2 h3 (by simpa using ra)⟩
 | .tuple ds,v,u,h,r=>by
  simp only [iD] at h
  obtain ⟨a,xs,rfl,q,hs⟩:=h
  cases r
  obtain ⟨its,rv,p,hz⟩:=I.tuple q
  obtain ⟨as,ra⟩:=iA.reads I hs rv
  obtain ⟨o,h1,h2,n,h3⟩:=(show s.heap.IsTuple a its.toArray from p)
  exact ⟨_,.tuple h1 h2 h3 (by simpa using ra)⟩
 | .dict _,v,u,h,r=>by simp only [iD] at h
theorem iA.reads {X:Cx} {pins:List (Addr × Obj)} {σ:L2.St} {H:Hp} {s:Shared} (I:L2.Inv X pins σ H s):∀ {ds:List PyData} {vs:List V} {us:List Value},iA X.K H ds vs->Vals vs us->∃ as,ReadsAll s.heap us ds as
 | [],vs,us,h,r=>by simp only [iA] at h;subst h;cases r;exact ⟨_,.nil⟩
 | d :: ds,vs,us,h,r=>by
  simp only [iA] at h
  obtain ⟨v,vs',rfl,h1,h2⟩:=h
  cases r with
  | cons r rr =>
   obtain ⟨as,ra⟩:=iD.reads I h1 r
   obtain ⟨bs,rb⟩:=iA.reads I h2 rr
   exact ⟨_,.cons ra rb⟩
end
def Kp (K:PySem.W.Frag) (neg:Bool):R2:=fun x y H Q=>∃ d d',iD K H d x/\iD K H d' y/\d.canLay0=true/\d'.canLay0=true/\min d.depth d'.depth<=64/\Q (.bl (if neg then !PyData.eqv d d' else PyData.eqv d d')) H
theorem Oj {X:Cx} {k:Nat} (hr:fT k X.A):dG X (compareOp .Eq) (Kp X.K false):=by
 intro pins s σ H x y v u Q I rx ry h
 obtain ⟨d,d',h1,h2,c1,c2,hd,q⟩:=h
 obtain ⟨as,ra⟩:=h1.reads I rx
 obtain ⟨bs,rb⟩:=h2.reads I ry
 exact SeqAt.compareEq_reads ra rb c1 c2 (by have:=hr.units;omega) ⟨.bl _,H,I,rfl,q⟩
theorem Pc {X:Cx} {k:Nat} (hr:fT k X.A):dG X (compareOp .NotEq) (Kp X.K true):=by
 intro pins s σ H x y v u Q I rx ry h
 obtain ⟨d,d',h1,h2,c1,c2,hd,q⟩:=h
 obtain ⟨as,ra⟩:=h1.reads I rx
 obtain ⟨bs,rb⟩:=h2.reads I ry
 exact SeqAt.compareNe_reads ra rb c1 c2 (by have:=hr.units;omega) ⟨.bl _,H,I,rfl,q⟩
mutual
def toD:U->Option PyData
 | .non=>some .none
 | .bl b=>some (.bool b)
 | .int i=>some (.int i)
 | .str z=>some (.str z)
 | .tup us=>(dS us).map .tuple
 | .lst us=>(dS us).map .list
 | .ty _=>none
 | .ref _=>none
 | .dic _ _ _=>none
def dS:List U->Option (List PyData)
 | []=>some []
 | u :: us=>match toD u,dS us with
  | some d,some ds=>some (d :: ds)
  | _,_=>none
end
def nH (M:aF) (u:U):Option PyData:=match u with
 | .ref a=>match M a with
  | some (.lst us)=>(dS us).map .list
  | _=>none
 | u=>toD u
mutual
theorem DX {K:PySem.W.Frag} {H:Hp} {M:aF}:∀ {u:U} {v:V} {d:PyData},aJ K H M u v->toD u=some d->iD K H d v
 | .non,v,d,r,e=>by simp only [toD,Option.some.injEq] at e;subst e;simp only [iD];exact r.non
 | .bl b,v,d,r,e=>by simp only [toD,Option.some.injEq] at e;subst e;simp only [iD];exact r.bl
 | .int i,v,d,r,e=>by simp only [toD,Option.some.injEq] at e;subst e;simp only [iD];exact r.int
 | .str i,v,d,r,e=>by simp only [toD,Option.some.injEq] at e;subst e;simp only [iD];exact r.str
 | .tup us,v,d,r,e=>by
  simp only [toD] at e
  cases e2:dS us with
  | none=>rw [e2] at e;simp at e
  | some ds =>
   rw [e2] at e;simp at e;subst e
   obtain ⟨a,vs,rfl,q,rs⟩:=r.tup
   simp only [iD]
   exact ⟨a,vs,rfl,q,sO rs e2⟩
 | .lst us,v,d,r,e=>by
  simp only [toD] at e
  cases e2:dS us with
  | none=>rw [e2] at e;simp at e
  | some ds =>
   rw [e2] at e;simp at e;subst e
   obtain ⟨a,vs,rfl,q,rs⟩:=r.lst
   simp only [iD]
   exact ⟨a,vs,rfl,q,sO rs e2⟩
 | .ty _,v,d,r,e=>by simp [toD] at e
 | .ref _,v,d,r,e=>by simp [toD] at e
 | .dic _ _ _,v,d,r,e=>by simp [toD] at e
theorem sO {K:PySem.W.Frag} {H:Hp} {M:aF}:∀ {us:List U} {vs:List V} {ds:List PyData},aI K H M us vs->dS us=some ds->iA K H ds vs
 | [],vs,ds,r,e=>by simp only [dS,Option.some.injEq] at e;subst e;simp only [iA];exact r.inv_nil
 | u :: us,vs,ds,r,e=>by
  obtain ⟨v,vs',rfl,a,b⟩:=r.inv_cons
  simp only [dS] at e
  cases e1:toD u with
  | none=>rw [e1] at e;simp at e
  | some d =>
   cases e2:dS us with
   | none=>rw [e1,e2] at e;simp at e
   | some ds' =>
    rw [e1,e2] at e;simp at e;subst e
    simp only [iA]
    exact ⟨v,vs',rfl,DX a e1,sO b e2⟩
end
theorem A8 {K:PySem.W.Frag} {H:Hp} {M:aF} {u:U} {v:V} {d:PyData} (rm:RelM K H M) (r:aJ K H M u v) (e:nH M u=some d):iD K H d v:=by
 cases u with
 | ref a =>
  simp only [nH] at e
  split at e
  ·rename_i us hM
   cases e2:dS us with
   | none=>rw [e2] at e;simp at e
   | some ds =>
    rw [e2] at e;simp at e;subst e
    obtain ⟨vs,h1,rs⟩:=rm a _ hM
    cases r.ref
    simp only [iD]
    exact ⟨a,vs,rfl,.inl (.inl h1),sO rs e2⟩
  ·cases e
 | _=>exact DX r (by simpa only [nH] using e)
def yR (neg:Bool):eL:=fun x y M Q=>∃ d d',nH M x=some d/\nH M y=some d'/\d.canLay0=true/\d'.canLay0=true/\min d.depth d'.depth<=64/\Q (.bl (if neg then !PyData.eqv d d' else PyData.eqv d d')) M
theorem Dq {K:PySem.W.Frag} {neg:Bool}:eP K (Kp K neg) (yR neg):=fun x y u w H M Q' rm ru rw h Q c=>by
 obtain ⟨d,d',e1,e2,c1,c2,hd,q⟩:=h
 exact ⟨d,d',A8 rm ru e1,A8 rm rw e2,c1,c2,hd,c.here rm dD q⟩
variable {D:Dat}
def nU:U->Bool
 | .non=>true
 | .bl _=>true
 | .int _=>true
 | .str _=>true
 | _=>false
def B6:U->U->Bool
 | .non,.non=>true
 | .bl a,.bl b=>a == b
 | .bl a,.int j=>(if a then 1 else 0) == j
 | .int i,.bl b=>i == (if b then 1 else 0)
 | .int i,.int j=>i == j
 | .str x,.str y=>x == y
 | _,_=>false
def items (M:aF):U->Option (List U)
 | .tup us=>some us
 | .lst us=>some us
 | .ref a=>match M a with
  | some (.lst us)=>some us
  | _=>none
 | _=>none
def fP (neg:Bool):eL:=fun x y M Q=>match items M y with
 | some us=>nU x=true/\us.all nU=true/\Q (.bl (if neg then !us.any (fun u=>B6 u x) else us.any (fun u=>B6 u x))) M
 | none=>False
theorem Ca {K:PySem.W.Frag} {H:Hp} {M:aF} {u:U} {v:V} (r:aJ K H M u v) (f:nU u=true):kI v=true:=by
 cases u with
 | non=>cases r.non;rfl
 | bl b=>cases r.bl;rfl
 | int b=>cases r.int;rfl
 | str b=>cases r.str;rfl
 | _=>exact absurd (show false=true from f) Bool.false_ne_true
theorem LK {K:PySem.W.Frag} {H:Hp} {M:aF} {u w:U} {v x:V} (r:aJ K H M u v) (r':aJ K H M w x) (f:nU u=true) (f':nU w=true):xW v x=B6 u w:=by
 cases u <;> (first | (cases r.non) | (cases r.bl) | (cases r.int) | (cases r.str) | exact absurd (show false=true from f) Bool.false_ne_true) <;> cases w <;>
  (first | (cases r'.non) | (cases r'.bl) | (cases r'.int) | (cases r'.str) | exact absurd (show false=true from f') Bool.false_ne_true) <;> rfl
theorem zZ {K:PySem.W.Frag} {H:Hp} {M:aF}:∀ {us:List U} {vs:List V},aI K H M us vs->us.all nU=true->vs.all kI=true
 | [],vs,r,_=>by cases r.inv_nil;rfl
 | u :: us,vs,r,f=>by
  obtain ⟨v,vs',rfl,a,b⟩:=r.inv_cons
  rw [List.all_cons,Bool.and_eq_true] at f ⊢
  exact ⟨Ca a f.1,zZ b f.2⟩
theorem Dy {K:PySem.W.Frag} {H:Hp} {M:aF} {w:U} {x:V} (r':aJ K H M w x) (f':nU w=true):∀ {us:List U} {vs:List V},aI K H M us vs->us.all nU=true->Lk x vs=us.any fun u=>B6 u w
 | [],vs,r,_=>by cases r.inv_nil;rfl
 | u :: us,vs,r,f=>by
  obtain ⟨v,vs',rfl,a,b⟩:=r.inv_cons
  rw [List.all_cons,Bool.and_eq_true] at f
  have:=Dy r' f' b f.2
  unfold Lk at this ⊢
  rw [List.any_cons,List.any_cons,this,LK a r' f.1 f']
theorem zE {K:PySem.W.Frag} {H:Hp} {M:aF} {u:U} {v:V} {us:List U} (rm:RelM K H M) (r:aJ K H M u v) (e:items M u=some us):∃ p xs,v=.ref p/\(eO K H p xs\/fW K H p xs)/\aI K H M us xs:=by
 cases u with
 | tup us'=>cases e;obtain ⟨a,vs,rfl,q,rs⟩:=r.tup;exact ⟨a,vs,rfl,.inr q,rs⟩
 | lst us'=>cases e;obtain ⟨a,vs,rfl,q,rs⟩:=r.lst;exact ⟨a,vs,rfl,.inl q,rs⟩
 | ref a =>
  simp only [items] at e
  split at e
  ·rename_i us' hM
   cases e
   obtain ⟨vs,h1,rs⟩:=rm a _ hM
   exact ⟨a,vs,r.ref,.inl (.inl (.inl h1)),rs⟩
  ·cases e
 | _=>cases e
theorem Ol {K:PySem.W.Frag} {neg:Bool}:eP K (QT K neg) (fP neg):=fun x y u w H M Q' rm ru rw h Q c=>by
 unfold fP at h
 split at h
 ·rename_i us e
  obtain ⟨f,fs,q⟩:=h
  obtain ⟨p,xs,rfl,hs,rs⟩:=zE rm rw e
  refine ⟨p,xs,rfl,hs,Ca ru f,zZ rs fs,?_⟩
  rw [Dy ru f rs fs]
  exact c.here rm dD q
 ·exact h.elim
theorem Jn:mY D .In (fP false):=⟨⟨_,fun X h=>h.K ▸ Iy,Ol⟩⟩
def kD (neg:Bool):eL:=fun x y M Q=>match zI x y with
 | some b=>Q (.bl (if neg then !b else b)) M
 | none=>yR neg x y M Q
theorem eB:mY D .Eq (kD false):=⟨⟨_,fun X h=>h.K ▸ Qe.or (Oj h.room),fun x y u w H M Q' rm ru rw h Q c=>by
 unfold kD at h
 split at h
 ·rename_i b e
  obtain ⟨h1,h2⟩:=Dv ru rw e
  exact .inl ⟨h1,c.here rm (by rw [h2];exact dD) h⟩
 ·exact .inr (Dq x y u w H M Q' rm ru rw h Q c)⟩⟩
theorem lQ:mY D .NotEq (kD true):=⟨⟨_,fun X h=>h.K ▸ QN.or (Pc h.room),fun x y u w H M Q' rm ru rw h Q c=>by
 unfold kD at h
 split at h
 ·rename_i b e
  obtain ⟨h1,h2⟩:=Dv ru rw e
  exact .inl ⟨h1,c.here rm (by rw [h2];exact dD) h⟩
 ·exact .inr (Dq x y u w H M Q' rm ru rw h Q c)⟩⟩
end U2
namespace U2
open PySem PySem.Spec PyProof.Rows L2
structure Zp (z TI TO i1 i2:Addr) (f1 f2:List Addr):Prop where
 TIz:TI≠z
 TOz:TO≠z
 i1z:i1≠z
 i2z:i2≠z
 TITO:TI≠TO
 TIi1:TI≠i1
 TIi2:TI≠i2
 TOi1:TO≠i1
 TOi2:TO≠i2
 i12:i1≠i2
 zf1:z ∉ f1
 zf2:z ∉ f2
 Tf1:TO ∉ f1
 Tf2:TO ∉ f2
 if2:i1 ∉ f2
 if1:i2 ∉ f1
theorem Draws.same {prog:Program} {w:World} {A:Around} {it:Addr} {fp:List Addr} {n:Nat} {P:Nat->Value->Prop} {St:Nat->Heap->Prop} (D:Draws prog w A it fp n P St) {i:Nat} {h h':Heap} {c:Addr} (st:St i h) (sb:Heap.ExtBut c h h') (hc:c ∉ fp):St i h' :=
 D.frame _ _ _ st fun b hb o e=>sb b o (fun q=>hc (q ▸ hb)) e
section
variable {prog:Program} {w:World} {A:Around} {E:Value->Shared->Prop} {s:Shared} {z TI TO i1 i2:Addr} {f1 f2:List Addr} {n1 n2:Nat} {P1 P2:Nat->Value->Prop} {S1 S2:Nat->Heap->Prop} {i:Nat} {a b:Value}
theorem KD (Z:Zp z TI TO i1 i2 f1 f2) (D1:Draws prog w A i1 f1 n1 P1 S1) (D2:Draws prog w A i2 f2 n2 P2 S2) {Q:Value->Shared->Prop}
  (hz:IsZip s.heap z TI TO .none) (hTI:IsPair s.heap TI (.ref i1) (.ref i2)) (hTO:IsPair s.heap TO a b) (h1:S1 i s.heap) (h2:S2 i s.heap) (l1:i < n1) (l2:i < n2)
  (hQ:∀ x y h' tk,P1 i x->P2 i y->IsZip h' z TI TO (rawInt s.heap.objs.size)->IsPair h' TO x y->S1 (i + 1) h'->S2 (i + 1) h'->IsPair h' s.heap.objs.size x y ->
   (∀ c o,c≠z->c≠TO->c≠i1->c≠i2->s.heap.get? c=some o->h'.get? c=some o)->Q (.ref s.heap.objs.size) { s with heap:=h',toks:=tk }) :
  wpAny (model prog w) A (Builtin.«zip.__next__» ⟨[.ref z],[]⟩) (fun fin s'=>∃ v,fin=.done (.ret v)/\Q v s') E s:=by
 show wpAny _ _ (field (.ref z) 2 >>= _) _ _ _
 refine wpAny_bind (wpAny_field hz rfl (x:=.bool false) rfl ?_)
 show wpAny _ _ (field (.ref z) 3 >>= _) _ _ _
 refine wpAny_bind (wpAny_field hz rfl (x:=.ref TI) rfl ?_)
 refine wpAny_bind (wpAny_seqItems hTI rfl ?_)
 show wpAny _ _ (Builtin.SmallTypes.ownedTupleIsFree (.ref z) >>= _) _ _ _
 refine wpAny_bind ?_
 unfold Builtin.SmallTypes.ownedTupleIsFree
 refine wpAny_bind (wpAny_field hz rfl (x:=.none) rfl (wpAny_pure ?_))
 simp only [if_true]
 refine wpAny_bind (wpAny_rule ?_)
 refine wpAny_bind (wpAny_field hz rfl (x:=.ref TO) rfl ?_)
 refine wpAny_bind (wpAny_setField_rec hz (by simp) fun g1 hz1 hs1=>?_)
 replace hz1:IsZip g1 z TI TO .ellipsis:=hz1
 refine wpAny_bind ?_
 simp only [List.zipIdx_cons,List.zipIdx_nil,List.forIn_cons,List.forIn_nil]
 refine wpAny_bind (wpAny_bind (wpAny_onRaise ?_))
 show wpAny _ _ (Builtin.SmallTypes.nextOf (.ref i1) >>= _) _ _ _
 refine wpAny_bind (D1.item i _ _ _ l1 (Draws.same D1 h1 hs1.extBut Z.zf1) fun x g2 tk2 px st2 hs2=>wpAny_pure ?_)
 have hTO2:IsPair g2 TO a b:=hs2.extBut _ _ Z.TOi1 (hs1.extBut _ _ Z.TOz hTO)
 refine wpAny_bind (wpAny_seqItems hTO2 rfl ?_)
 refine wpAny_bind (wpAny_updateSeq_pair hTO2 fun g3 hTO3 hs3=>?_)
 replace hTO3:IsPair g3 TO x b:=hTO3
 refine wpAny_bind (wpAny_letGo (wpAny_pure ?_))
 refine wpAny_bind (wpAny_bind (wpAny_onRaise ?_))
 show wpAny _ _ (Builtin.SmallTypes.nextOf (.ref i2) >>= _) _ _ _
 refine wpAny_bind (D2.item i _ _ _ l2 (Draws.same D2 (Draws.same D2 (Draws.same D2 h2 hs1.extBut Z.zf2) hs2.extBut Z.if2) hs3.extBut Z.Tf2) fun y g4 tk4 py st4 hs4=>wpAny_pure ?_)
 have hTO4:IsPair g4 TO x b:=hs4.extBut _ _ Z.TOi2 hTO3
 refine wpAny_bind (wpAny_seqItems hTO4 rfl ?_)
 refine wpAny_bind (wpAny_updateSeq_pair hTO4 fun g5 hTO5 hs5=>?_)
 replace hTO5:IsPair g5 TO x y:=hTO5
 refine wpAny_bind (wpAny_letGo (wpAny_pure (wpAny_pure ?_)))
 refine wpAny_bind (wpAny_seqItems hTO5 rfl ?_)
 refine wpAny_bind (wpAny_newTuple ?_)
 have hsz:g5.objs.size=s.heap.objs.size:=by rw [hs5.1,hs4.1,hs3.1,hs2.1,hs1.1]
 have hz5:IsZip g5 z TI TO .ellipsis:=hs5.extBut _ _ Z.TOz.symm (hs4.extBut _ _ Z.i2z.symm (hs3.extBut _ _ Z.TOz.symm (hs2.extBut _ _ Z.i1z.symm hz1)))
 have hk5:∀ c o,c≠z->c≠TO->c≠i1->c≠i2->s.heap.get? c=some o->g5.get? c=some o:=fun c o c1 c2 c3 c4 e =>
  hs5.extBut _ _ c2 (hs4.extBut _ _ c4 (hs3.extBut _ _ c2 (hs2.extBut _ _ c3 (hs1.extBut _ _ c1 e))))
 have h15:S1 (i + 1) g5:=Draws.same D1 (Draws.same D1 (Draws.same D1 st2 hs3.extBut Z.Tf1) hs4.extBut Z.if1) hs5.extBut Z.Tf1
 have h25:S2 (i + 1) g5:=Draws.same D2 st4 hs5.extBut Z.Tf2
 have hzlt:z < g5.objs.size:=Heap.lt_size hz5
 show wpAny _ _ (Builtin.SmallTypes.ownedTupleHandOut (.ref z) (.ref g5.objs.size) >>= _) _ _ _
 refine wpAny_bind ?_
 unfold Builtin.SmallTypes.ownedTupleHandOut
 have hz6:IsZip (g5.push { cls:=.type "tuple",data:=.seq #[x,y] }) z TI TO .ellipsis:=Heap.get?_push_of_some _ hz5
 refine wpAny_bind (wpAny_setField_rec hz6 (by simp) fun g7 hz7 hs7=>?_)
 replace hz7:IsZip g7 z TI TO (rawInt g5.objs.size):=hz7
 refine wpAny_setField_rec hz7 (by simp) fun g8 hz8 hs8=>?_
 replace hz8:IsZip g8 z TI TO (rawInt g5.objs.size):=hz8
 have up:∀ c o,c≠z->g5.get? c=some o->g8.get? c=some o:=fun c o c1 e=>hs8.extBut _ _ c1 (hs7.extBut _ _ c1 (Heap.get?_push_of_some _ e))
 have hT8:IsPair g8 g5.objs.size x y:=hs8.extBut _ _ (Nat.ne_of_gt hzlt) (hs7.extBut _ _ (Nat.ne_of_gt hzlt) (Heap.get?_push_size _ rfl))
 rw [hsz] at hz8 hT8
 refine wpAny_pure ⟨_,rfl,?_⟩
 show Q (.ref g5.objs.size) _
 rw [hsz]
 exact hQ x y g8 _ px py hz8 (up _ _ Z.TOz hTO5) (D1.frame _ _ _ h15 fun b hb o e=>up b o (fun q=>Z.zf1 (q ▸ hb)) e) (D2.frame _ _ _ h25 fun b hb o e=>up b o (fun q=>Z.zf2 (q ▸ hb)) e) hT8 fun c o c1 c2 c3 c4 e=>up c o c1 (hk5 c o c1 c2 c3 c4 e)
theorem Mq (Z:Zp z TI TO i1 i2 f1 f2) (D1:Draws prog w A i1 f1 n1 P1 S1) (D2:Draws prog w A i2 f2 n2 P2 S2) {Q:Fin->Shared->Prop}
  (hz:IsZip s.heap z TI TO .none) (hTI:IsPair s.heap TI (.ref i1) (.ref i2)) (hTO:IsPair s.heap TO a b) (h1:S1 i s.heap) (h2:S2 i s.heap) (l1:i<=n1) (hi:i=min n1 n2)
  (hE:∀ h' e tk,(∀ c o,c≠z->c≠TO->c≠i1->c≠i2->s.heap.get? c=some o->h'.get? c=some o)->(∃ o,h'.get? e=some o/\o.cls=.type "StopIteration")->E (.ref e) { s with heap:=h',toks:=tk }) :
  wpAny (model prog w) A (Builtin.«zip.__next__» ⟨[.ref z],[]⟩) Q E s:=by
 show wpAny _ _ (field (.ref z) 2 >>= _) _ _ _
 refine wpAny_bind (wpAny_field hz rfl (x:=.bool false) rfl ?_)
 show wpAny _ _ (field (.ref z) 3 >>= _) _ _ _
 refine wpAny_bind (wpAny_field hz rfl (x:=.ref TI) rfl ?_)
 refine wpAny_bind (wpAny_seqItems hTI rfl ?_)
 show wpAny _ _ (Builtin.SmallTypes.ownedTupleIsFree (.ref z) >>= _) _ _ _
 refine wpAny_bind ?_
 unfold Builtin.SmallTypes.ownedTupleIsFree
 refine wpAny_bind (wpAny_field hz rfl (x:=.none) rfl (wpAny_pure ?_))
 simp only [if_true]
 refine wpAny_bind (wpAny_rule ?_)
 refine wpAny_bind (wpAny_field hz rfl (x:=.ref TO) rfl ?_)
 refine wpAny_bind (wpAny_setField_rec hz (by simp) fun g1 hz1 hs1=>?_)
 replace hz1:IsZip g1 z TI TO .ellipsis:=hz1
 refine wpAny_bind ?_
 simp only [List.zipIdx_cons,List.zipIdx_nil,List.forIn_cons,List.forIn_nil]
 refine wpAny_bind (wpAny_bind (wpAny_onRaise ?_))
 show wpAny _ _ (Builtin.SmallTypes.nextOf (.ref i1) >>= _) _ _ _
 have hA:S1 i g1:=Draws.same D1 h1 hs1.extBut Z.zf1
 by_cases hlt:i < n1
 ·have hn2:i=n2:=by omega
  refine wpAny_bind (D1.item i _ _ _ hlt hA fun x g2 tk2 px st2 hs2=>wpAny_pure ?_)
  have hTO2:IsPair g2 TO a b:=hs2.extBut _ _ Z.TOi1 (hs1.extBut _ _ Z.TOz hTO)
  refine wpAny_bind (wpAny_seqItems hTO2 rfl ?_)
  refine wpAny_bind (wpAny_updateSeq_pair hTO2 fun g3 hTO3 hs3=>?_)
  refine wpAny_bind (wpAny_letGo (wpAny_pure ?_))
  refine wpAny_bind (wpAny_bind (wpAny_onRaise ?_))
  show wpAny _ _ (Builtin.SmallTypes.nextOf (.ref i2) >>= _) _ _ _
  refine wpAny_bind (D2.done _ _ _ (hn2 ▸ Draws.same D2 (Draws.same D2 (Draws.same D2 h2 hs1.extBut Z.zf2) hs2.extBut Z.if2) hs3.extBut Z.Tf2) fun g4 e hs4 he=>?_)
  obtain ⟨oe,hoe,hce⟩:=he
  have hz4:IsZip g4 z TI TO .ellipsis:=hs4 _ _ Z.i2z.symm (hs3.extBut _ _ Z.TOz.symm (hs2.extBut _ _ Z.i1z.symm hz1))
  have hez:e≠z:=fun x=>by subst x;rw [hz4] at hoe;cases hoe;simp at hce
  exact wpAny_setField_rec hz4 (by simp) fun g5 _ hs5=>hE g5 e _ (fun c o c1 c2 c3 c4 x=>hs5.extBut _ _ c1 (hs4 _ _ c4 (hs3.extBut _ _ c2 (hs2.extBut _ _ c3 (hs1.extBut _ _ c1 x))))) ⟨oe,hs5.extBut _ _ hez hoe,hce⟩
 ·have hn1:i=n1:=by omega
  refine wpAny_bind (D1.done _ _ _ (hn1 ▸ hA) fun g2 e hs2 he=>?_)
  obtain ⟨oe,hoe,hce⟩:=he
  have hz2:IsZip g2 z TI TO .ellipsis:=hs2 _ _ Z.i1z.symm hz1
  have hez:e≠z:=fun x=>by subst x;rw [hz2] at hoe;cases hoe;simp at hce
  exact wpAny_setField_rec hz2 (by simp) fun g3 _ hs3=>hE g3 e _ (fun c o c1 _ c3 _ x=>hs3.extBut _ _ c1 (hs2 _ _ c3 (hs1.extBut _ _ c1 x))) ⟨oe,hs3.extBut _ _ hez hoe,hce⟩
theorem Av (Z:Zp z TI TO i1 i2 f1 f2) (D1:Draws prog w A.in1 i1 f1 n1 P1 S1) (D2:Draws prog w A.in1 i2 f2 n2 P2 S2) {Q:Option Value->Shared->Prop}
  (hz:IsZip s.heap z TI TO .none) (hTI:IsPair s.heap TI (.ref i1) (.ref i2)) (hTO:IsPair s.heap TO a b) (h1:S1 i s.heap) (h2:S2 i s.heap) (l1:i < n1) (l2:i < n2)
  (hQ:∀ x y h' tk,P1 i x->P2 i y->IsZip h' z TI TO (rawInt s.heap.objs.size)->IsPair h' TO x y->S1 (i + 1) h'->S2 (i + 1) h'->IsPair h' s.heap.objs.size x y ->
   (∀ c o,c≠z->c≠TO->c≠i1->c≠i2->s.heap.get? c=some o->h'.get? c=some o)->Q (some (.ref s.heap.objs.size)) { s with heap:=h',toks:=tk }) :
  wpAny (model prog w) A (pyNext (.ref z)) Q E s:=by
 have hT:s.TypeIs (.ref z) "zip":=⟨_,hz,rfl⟩
 unfold pyNext
 exact wpAny_bind (wpAny_attempt (wpAny_callSpecial?_slot (name:=Str.ofString "__next__") hT PySem.F.slot_zip_next
  (wpAny_call_entry PySem.F.slot_zip_next hT PySem.F.entry_zip_next
   (KD Z D1 D2 hz hTI hTO h1 h2 l1 l2 fun x y h' tk a1 a2 a3 a4 a5 a6 a7 a8=>wpAny_pure (hQ x y h' tk a1 a2 a3 a4 a5 a6 a7 a8)) (PySem.F.args_zip_next_1 _))))
theorem BZ (Z:Zp z TI TO i1 i2 f1 f2) (D1:Draws prog w A.in1 i1 f1 n1 P1 S1) (D2:Draws prog w A.in1 i2 f2 n2 P2 S2) {Q:Option Value->Shared->Prop}
  (hz:IsZip s.heap z TI TO .none) (hTI:IsPair s.heap TI (.ref i1) (.ref i2)) (hTO:IsPair s.heap TO a b) (h1:S1 i s.heap) (h2:S2 i s.heap) (l1:i<=n1) (hi:i=min n1 n2)
  (hQ:∀ h' tk,(∀ c o,c≠z->c≠TO->c≠i1->c≠i2->s.heap.get? c=some o->h'.get? c=some o)->Q none { s with heap:=h',toks:=tk }):wpAny (model prog w) A (pyNext (.ref z)) Q E s:=by
 have hT:s.TypeIs (.ref z) "zip":=⟨_,hz,rfl⟩
 unfold pyNext
 refine wpAny_bind (wpAny_attempt (wpAny_callSpecial?_slot (name:=Str.ofString "__next__") hT PySem.F.slot_zip_next
  (wpAny_call_entry PySem.F.slot_zip_next hT PySem.F.entry_zip_next (Mq Z D1 D2 hz hTI hTO h1 h2 l1 hi fun h' e tk hk he=>?_) (PySem.F.args_zip_next_1 _))))
 obtain ⟨o,ho,hc⟩:=he
 refine wpAny_bind (wpAny_isInstance (T:="StopIteration") (b:=true) ⟨o,ho,hc⟩ isSubtype_stop ?_)
 exact wpAny_pure (hQ _ _ hk)
end
def Pr (f g:Bool) (K:PySem.W.Frag) (a c:Addr):It :=
  ⟨fun i H=>∃ xs ys x y,oN f K H a xs/\oN g K H c ys/\xs[i]?=some x/\ys[i]?=some y,
   fun i H v H'=>∃ p x y,(∀ xs,oN f K H a xs->xs[i]?=some x)/\(∀ ys,oN g K H c ys->ys[i]?=some y)/\H p=none/\v=.ref p/\H'=upd H p (.tup [x,y]),
   fun i H=>∃ xs ys,oN f K H a xs/\oN g K H c ys/\i=min xs.length ys.length⟩
theorem K9 {f g:Bool} {h:Heap} {z TI TO i1 i2 a c:Addr} {f0 u v:Value} {k1 k2:Nat} {xs ys:Array Value} (hz:IsZip h z TI TO f0) (q:TI≠TO/\i1≠i2/\TO≠a/\TO≠c) (hTI:IsPair h TI (.ref i1) (.ref i2)) (hTO:IsPair h TO u v)
  (h1:mP f h i1 a k1) (h2:mP g h i2 c k2) (ha:lB f h a xs) (hc:lB g h c ys):Zp z TI TO i1 i2 [i1,a] [i2,c]:=by
 have iz:=fun {r:Bool} {i x:Addr} {k:Nat} (p:mP r h i x k)=>let ⟨_,e,c,_⟩:=p.obj;lJ e hz c rfl (by cases r <;> decide)
 have az:=fun {r:Bool} {x:Addr} {xs:Array Value} (p:lB r h x xs)=>let ⟨_,_,e,c,_⟩:=p.obj;lJ e hz c rfl (by cases r <;> decide)
 have ti:=fun {r:Bool} {i x t:Addr} {u v:Value} {k:Nat} (w:IsPair h t u v) (p:mP r h i x k)=>let ⟨_,e,c,_⟩:=p.obj;lJ w e rfl c (by cases r <;> decide)
 refine ⟨lJ hTI hz rfl rfl (by decide),lJ hTO hz rfl rfl (by decide),iz h1,iz h2,q.1,ti hTI h1,ti hTI h2,ti hTO h1,ti hTO h2,q.2.1,?_,?_,?_,?_,?_,?_⟩ <;> simp only [List.mem_cons,List.not_mem_nil,or_false,not_or]
 ·exact ⟨(iz h1).symm,(az ha).symm⟩
 ·exact ⟨(iz h2).symm,(az hc).symm⟩
 ·exact ⟨ti hTO h1,q.2.2.1⟩
 ·exact ⟨ti hTO h2,q.2.2.2⟩
 ·exact ⟨q.2.1,(hc.ne h1).symm⟩
 ·exact ⟨q.2.1.symm,(ha.ne h2).symm⟩
theorem IF {P:Program} {w:World} {K:PySem.W.Frag} {elts:List Expr} {kk:Nat} {pos:Pos} (f g:Bool) (a c z TI TO i1 i2:Addr) (q:TI≠TO/\i1≠i2/\TO≠a/\TO≠c) :
  Turn P w K (.Tuple elts kk pos) (Pr f g K a c) [z,TI,TO,i1,i2] z (fun i h=>IsZip h z TI TO .none/\IsPair h TI (.ref i1) (.ref i2)/\(∃ u v,IsPair h TO u v)/\mP f h i1 a i/\mP g h i2 c i) where
 mem:=by simp
 obj:=fun i h st b hb=>by
  obtain ⟨hz,hTI,⟨u,v,hTO⟩,h1,h2⟩:=st
  obtain ⟨o1,e1,c1,d1⟩:=h1.obj
  obtain ⟨o2,e2,c2,d2⟩:=h2.obj
  have:b=z\/b=TI\/b=TO\/b=i1\/b=i2:=by simpa using hb
  rcases this with rfl | rfl | rfl | rfl | rfl
  ·exact ⟨_,hz,fun v x=>by
    have x':Data.fields _=Data.cell v:=x
    cases x'⟩
  ·exact ⟨_,hTI,fun v x=>by
    have x':Data.seq _ _=Data.cell v:=x
    cases x'⟩
  ·exact ⟨_,hTO,fun v x=>by
    have x':Data.seq _ _=Data.cell v:=x
    cases x'⟩
  ·exact ⟨_,e1,fun v x=>by rw [d1] at x;cases x⟩
  ·exact ⟨_,e2,fun v x=>by rw [d2] at x;cases x⟩
 keep:=fun i h h' st k=>let ⟨hz,hTI,⟨u,v,hTO⟩,h1,h2⟩:=st
  ⟨k z (by simp) _ hz,k TI (by simp) _ hTI,⟨u,v,k TO (by simp) _ hTO⟩,h1.at fun o e=>k i1 (by simp) o e,h2.at fun o e=>k i2 (by simp) o e⟩
 item:=by
  intro X hP hw hK hc i pins s σ H E I hf st hg
  subst hP hw hK
  obtain ⟨hz,hTI,⟨u,v,hTO⟩,h1,h2⟩:=st
  obtain ⟨xs,ys,x,y,hqx,hqy,hx,hy⟩:=hg
  obtain ⟨its,rv,p,_⟩:=wX I hqx
  obtain ⟨its',rv',p',_⟩:=wX I hqy
  obtain ⟨x',hu,ru⟩:=rv.get hx
  obtain ⟨y',hu',ru'⟩:=rv'.get hy
  have Z:=K9 hz q hTI hTO h1 h2 p p'
  have n1:a≠i1:=p.ne h1
  have n2:c≠i2:=p'.ne h2
  have hd:X.A.in1.handled=none:=I.ok.hd hc
  have lt1:i < its.toArray.size:=by
   have:=(List.getElem?_eq_some_iff.mp hu).1
   simpa using this
  have lt2:i < its'.toArray.size:=by
   have:=(List.getElem?_eq_some_iff.mp hu').1
   simpa using this
  refine Av Z (nF f hd i1 a n1 its.toArray) (nF g hd i2 c n2 its'.toArray) hz hTI hTO ⟨h1,p⟩ ⟨h2,p'⟩ lt1 lt2 fun x1 y1 h' tk px py hz' hTO' s1 s2 hT hk=>?_
  refine ⟨_,rfl,wpAny_letOwnedTupleGo_zip (s:={ s with heap:=h',toks:=tk }) hz' fun h'' hz'' hs''=>?_⟩
  have ex:x1=x':=by
   have h3:its[i]?=some x1:=by simpa using px
   rw [hu] at h3;exact (Option.some.inj h3).symm
  have ey:y1=y':=by
   have h3:its'[i]?=some y1:=by simpa using py
   rw [hu'] at h3;exact (Option.some.inj h3).symm
  subst ex ey
  have lt:∀ {b o},s.heap.get? b=some o->s.heap.objs.size≠b:=fun e=>Nat.ne_of_gt (Heap.lt_size e)
  have hTT:iY h'' s.heap.objs.size #[x1,y1]:=⟨_,hs''.extBut _ _ (lt hz) hT,rfl,rfl,_,rfl⟩
  refine ⟨.ref s.heap.objs.size,upd H s.heap.objs.size (.tup [x,y]),rL (s:=s) (h':=h'') (tk:=tk) (ch:=[z,TI,TO,i1,i2]) I hf (fun b o hb e=>?_) (Nat.le_refl _) ⟨by show 2<=sizeLine;decide,[x1,y1],.cons ru (.cons ru' .nil),hTT⟩,rfl,
   ⟨s.heap.objs.size,x,y,fun zs hz=>by rw [<- OY I hqx hz];exact hx,fun zs hz=>by rw [<- OY I hqy hz];exact hy,I.hok.fresh (Nat.le_refl _),rfl,rfl⟩,⟨hz'',?_,?_,?_,?_⟩,fun b hb=>?_⟩
  ·have hb':¬ (b=z\/b=TI\/b=TO\/b=i1\/b=i2):=by simpa using hb
   simp only [not_or] at hb'
   exact hs''.extBut _ _ hb'.1 (hk b o hb'.1 hb'.2.2.1 hb'.2.2.2.1 hb'.2.2.2.2 e)
  ·exact hs''.extBut _ _ Z.TIz (hk _ _ Z.TIz Z.TITO Z.TIi1 Z.TIi2 hTI)
  ·exact ⟨_,_,hs''.extBut _ _ Z.TOz hTO'⟩
  ·exact s1.1.at fun o e=>hs''.extBut _ _ Z.i1z e
  ·exact s2.1.at fun o e=>hs''.extBut _ _ Z.i2z e
  ·rw [bL (fun e=>?_)]
   ·exact (hf b hb).1
   ·have:b=z\/b=TI\/b=TO\/b=i1\/b=i2:=by simpa using hb
    obtain ⟨o1,e1,_⟩:=h1.obj
    obtain ⟨o2,e2,_⟩:=h2.obj
    rcases this with rfl | rfl | rfl | rfl | rfl
    ·exact lt hz e.symm
    ·exact lt hTI e.symm
    ·exact lt hTO e.symm
    ·exact lt e1 e.symm
    ·exact lt e2 e.symm
 done:=by
  intro X hP hw hK hc i pins s σ H E I hf st hg
  subst hP hw hK
  obtain ⟨hz,hTI,⟨u,v,hTO⟩,h1,h2⟩:=st
  obtain ⟨xs,ys,hqx,hqy,hi⟩:=hg
  obtain ⟨its,rv,p,_⟩:=wX I hqx
  obtain ⟨its',rv',p',_⟩:=wX I hqy
  have Z:=K9 hz q hTI hTO h1 h2 p p'
  have n1:a≠i1:=p.ne h1
  have n2:c≠i2:=p'.ne h2
  have hd:X.A.in1.handled=none:=I.ok.hd hc
  have hi':i=min its.toArray.size its'.toArray.size:=by rw [List.size_toArray,List.size_toArray,<- rv.length,<- rv'.length];exact hi
  refine BZ Z (nF f hd i1 a n1 its.toArray) (nF g hd i2 c n2 its'.toArray) hz hTI hTO ⟨h1,p⟩ ⟨h2,p'⟩ (by omega) hi' fun h' tk hk=>⟨rfl,?_⟩
  have kk:∀ b o,b ∉ [z,TI,TO,i1,i2]->s.heap.get? b=some o->h'.get? b=some o:=fun b o hb e=>by
   have hb':¬ (b=z\/b=TI\/b=TO\/b=i1\/b=i2):=by simpa using hb
   simp only [not_or] at hb'
   exact hk b o hb'.1 hb'.2.2.1 hb'.2.2.2.1 hb'.2.2.2.2 e
  have:=I.call' (ch:=[z,TI,TO,i1,i2]) (H':=H) (s':={ s with heap:=h',toks:=tk }) rfl ⟨fun b u q n hb hx=>kk b u hx q,fun b u q n hb hx=>⟨u.slots,kk b u hx q⟩,fun b u q n hx=>n,fun b u q hx=>⟨u,kk b u hx q⟩,fun b xs q=>q,fun b u xs q=>q,fun b ps q=>⟨#[],by rw [q];simp⟩⟩
   (fun a u e'=>?_) I.bare fun b hb=>⟨(hf b hb).2.2.2.1,(hf b hb).2.1,(hf b hb).2.2.2.2.1,(hf b hb).2.2.2.2.2⟩
  ·exact this
  ·refine (I.hok a u e').stay (fun b z hb q=>kk b z (fun hc=>?_) q) (fun _ q=>q) fun _ _ q=>q
   have hnone:=(hf b hc).1
   rcases hb with rfl | hb
   ·rw [hnone] at e';cases e'
   ·rw [hnone] at hb;cases hb
 self:=fun _ _ _ _ _ st h=>wpAny_pyIter_zip st.1 h
abbrev Lo (f:Bool) (h:Heap) (a:Addr):Heap:=h.push { cls:=.type (tX f),data:=.fields #[.ref a,.int 0 0] }
abbrev K1 (f g:Bool) (h:Heap) (a c:Addr):Heap:=(Lo f h a).push { cls:=.type (tX g),data:=.fields #[.ref c,.int 0 0] }
abbrev Lg (f g:Bool) (h:Heap) (a c:Addr):Heap:=(K1 f g h a c).push { cls:=.type "tuple",data:=.seq #[.ref h.objs.size,.ref (Lo f h a).objs.size] }
abbrev Ll (f g:Bool) (h:Heap) (a c:Addr):Heap:=(Lg f g h a c).push { cls:=.type "tuple",data:=.seq #[.none,.none] }
abbrev DS (f g:Bool) (h:Heap) (a c:Addr):Heap:=(Ll f g h a c).push { cls:=.type "zip",data:=.fields #[.none,.bool false,.bool false,.ref (K1 f g h a c).objs.size,.ref (Lg f g h a c).objs.size] }
theorem lB.push {f:Bool} {h:Heap} {a:Addr} {xs:Array Value} (p:lB f h a xs) (o:Obj):lB f (h.push o) a xs:=by
 obtain ⟨o',n,e,c,d⟩:=p.obj
 cases f <;> exact ⟨o',Heap.get?_push_of_some _ e,c,n,d⟩
theorem HP {prog:Program} {w:World} {A:Around} {E:Value->Shared->Prop} {s:Shared} {f:Bool} {l:Addr} {items:Array Value} {Q:Value->Shared->Prop} (hl:lB f s.heap l items)
  (hQ:Q (.ref s.heap.objs.size) { s with heap:=s.heap.push { cls:=.type (tX f),data:=.fields #[.ref l,.int 0 0] } }):wpAny (model prog w) A (pyIter (.ref l)) Q E s:=by
 cases f
 ·exact wpAny_pyIter_tuple hl hQ
 ·exact wpAny_pyIter_list hl hQ
theorem EU (f g:Bool) (a c:Addr) (xs ys:Array Value) :
  Meets (Builtin.«zip.__new__» ⟨[.type "zip",.ref a,.ref c],[]⟩) (fun _ R s=>lB f s.heap a xs/\lB g s.heap c ys /\
   R (.ok (.ret (.ref (Ll f g s.heap a c).objs.size))) { s with heap:=DS f g s.heap a c }) :=
 .of_wp fun prog w A R s h=>by
  obtain ⟨hp,g',d,tk,os⟩:=s;obtain ⟨h1,h2,h⟩:=h
  have hsub:=sub_zip
  have hL1:lB f (Shared.heap ⟨hp,g',d,tk,os⟩) a xs:=h1
  have hL2:lB g (Shared.heap ⟨hp.push { cls:=.type (tX f),data:=.fields #[.ref a,.int 0 0] },g',d,tk,os⟩) c ys:=h2.push _
  wp_walk using HP hL1,HP hL2
  exact ⟨_,rfl,h⟩
theorem Ic {f g:Bool} {prog:Program} {w:World} {A:Around} {E:Value->Shared->Prop} {s:Shared} {a c:Addr} {xs ys:Array Value} {Q:Value->Shared->Prop} (h1:lB f s.heap a xs) (h2:lB g s.heap c ys)
  (h:∀ h',IsZip h' (s.heap.objs.size + 4) (s.heap.objs.size + 2) (s.heap.objs.size + 3) .none->IsPair h' (s.heap.objs.size + 2) (.ref s.heap.objs.size) (.ref (s.heap.objs.size + 1)) ->
   IsPair h' (s.heap.objs.size + 3) .none .none->mP f h' s.heap.objs.size a 0->mP g h' (s.heap.objs.size + 1) c 0 ->
   (∀ b o,s.heap.get? b=some o->h'.get? b=some o)->Q (.ref (s.heap.objs.size + 4)) { s with heap:=h' }) :
  wpAny (model prog w) A (call (.type "zip") [.ref a,.ref c]) Q E s:=by
 refine callType_new PySem.F.called_zip (by decide) (PySem.F.typeCall_zip_2 _ _) (PySem.F.newCall_zip_2 _ _) (fun obj=>PySem.F.args_object_init_3 obj _ _) PySem.F.entry_zip_new
  (EU f g a c xs ys) ⟨h1,h2,?_⟩
 have z1:(Lo f s.heap a).objs.size=s.heap.objs.size + 1:=Heap.size_push ..
 have z2:(K1 f g s.heap a c).objs.size=s.heap.objs.size + 2:=by rw [Heap.size_push,z1]
 have z3:(Lg f g s.heap a c).objs.size=s.heap.objs.size + 3:=by rw [Heap.size_push,z2]
 have z4:(Ll f g s.heap a c).objs.size=s.heap.objs.size + 4:=by rw [Heap.size_push,z3]
 have g5:(DS f g s.heap a c).get? (Ll f g s.heap a c).objs.size=some _:=Heap.get?_push_size _ rfl
 have g4:(DS f g s.heap a c).get? (Lg f g s.heap a c).objs.size=some _:=Heap.get?_push_of_some _ (Heap.get?_push_size _ rfl)
 have g3:(DS f g s.heap a c).get? (K1 f g s.heap a c).objs.size=some _:=Heap.get?_push_of_some _ (Heap.get?_push_of_some _ (Heap.get?_push_size _ rfl))
 have g2:(DS f g s.heap a c).get? (Lo f s.heap a).objs.size=some _:=Heap.get?_push_of_some _ (Heap.get?_push_of_some _ (Heap.get?_push_of_some _ (Heap.get?_push_size _ rfl)))
 have g1:(DS f g s.heap a c).get? s.heap.objs.size=some _:=Heap.get?_push_of_some _ (Heap.get?_push_of_some _ (Heap.get?_push_of_some _ (Heap.get?_push_of_some _ (Heap.get?_push_size _ rfl))))
 show _/\_
 rw [z2,z3,z4] at g5
 rw [z1,z2] at g3
 rw [z3] at g4
 rw [z1] at g2
 rw [z4]
 exact ⟨⟨_,g5,rfl⟩,h _ g5 g3 g4 (.of g1 rfl rfl) (.of g2 rfl rfl) fun b o x =>
  Heap.get?_push_of_some _ (Heap.get?_push_of_some _ (Heap.get?_push_of_some _ (Heap.get?_push_of_some _ (Heap.get?_push_of_some _ x))))⟩
def F3 (f g:Bool) (K:PySem.W.Frag) (ta:TA):TI:=fun σ H R=>ta σ H fun vs H1=>∃ a c,vs=[.ref a,.ref c]/\(∃ xs,oN f K H1 a xs)/\(∃ ys,oN g K H1 c ys)/\R (Pr f g K a c) H1
theorem BI {f g:Bool} {X:Cx} {elts:List Expr} {kk:Nat} {tpos:Pos} {a b:Expr} {ta:TA} {p pos:Pos} (hg:Gl X "zip") (hm:X.mg "zip"=none) (ha:PA X [a,b] ta) (hs:starEach [a,b] X.env=[(false,eval a X.env),(false,eval b X.env)]) (hs2:starEach [b] X.env=[(false,eval b X.env)]) :
  PI X (.Tuple elts kk tpos) (.Call (.Name "zip" p) [a,b] [] pos) (F3 f g X.K ta):=by
 intro pins s σ H R I h
 refine Call_ (jO I hg hm boot_zip (PyProof.Rows.callWith_type1 (bG (ha pos pins s σ H _ I h) fun us s1 ⟨vs,H1,I1,r1,q1⟩=>?_) (by rw [hs,hs2]) (by rw [hs2];rfl)))
 obtain ⟨a,c,e,⟨xs,hq⟩,⟨ys,hq'⟩,q⟩:=q1
 subst e
 cases r1 with
 | cons r rr =>
  cases rr with
  | cons r' rr =>
   cases rr
   cases r
   cases r'
   obtain ⟨its,rv,p,hz⟩:=wX I1 hq
   obtain ⟨its',rv',p',hz'⟩:=wX I1 hq'
   have la:a < s1.heap.objs.size:=by obtain ⟨_,_,e,_⟩:=p.obj;exact Heap.lt_size e
   have lc:c < s1.heap.objs.size:=by obtain ⟨_,_,e,_⟩:=p'.obj;exact Heap.lt_size e
   refine Ic p p' fun h' hz hTI hTO h1 h2 hk=>?_
   refine wpAny_pyIter_zip (s:={ s1 with heap:=h' }) hz ?_
   have I2:L2.Inv X pins σ H1 { s1 with heap:=h',toks:=s1.toks }:=I1.kept hk
   refine ⟨_,_,_,_,H1,rfl,I2,IF f g a c (s1.heap.objs.size + 4) (s1.heap.objs.size + 2) (s1.heap.objs.size + 3) s1.heap.objs.size (s1.heap.objs.size + 1) ⟨Nat.ne_of_lt (Nat.lt_succ_self _),Nat.ne_of_lt (Nat.lt_succ_self _),Nat.ne_of_gt (Nat.lt_of_lt_of_le la (Nat.le_add_right _ _)),Nat.ne_of_gt (Nat.lt_of_lt_of_le lc (Nat.le_add_right _ _))⟩,⟨hz,hTI,⟨_,_,hTO⟩,h1,h2⟩,fun b hb=>?_,q⟩
   have le:s1.heap.objs.size<=b:=by
    have:b=s1.heap.objs.size + 4\/b=s1.heap.objs.size + 2\/b=s1.heap.objs.size + 3\/b=s1.heap.objs.size\/b=s1.heap.objs.size + 1:=by simpa using hb
    rcases this with e | e | e | e | e <;> rw [e]
    ·exact Nat.le_add_right _ _
    ·exact Nat.le_add_right _ _
    ·exact Nat.le_add_right _ _
    ·exact Nat.le_refl _
    ·exact Nat.le_add_right _ _
   exact I1.fpOk le (I1.hok.fresh le)
def dP:List U->List U->List U
 | u :: us,w :: ws=>.tup [u,w] :: dP us ws
 | _,_=>[]
theorem o5:∀ us ws:List U,(dP us ws).length=min us.length ws.length
 | [],ws=>by simp [dP]
 | _ :: _,[]=>by simp [dP]
 | u :: us,w :: ws=>by simp only [dP,List.length_cons,o5 us ws];omega
theorem mX:∀ {us ws:List U} {i:Nat} {x:U},(dP us ws)[i]?=some x->∃ u w,us[i]?=some u/\ws[i]?=some w/\x=.tup [u,w]
 | [],ws,i,x,h=>by simp [dP] at h
 | _ :: _,[],i,x,h=>by simp [dP] at h
 | u :: us,w :: ws,0,x,h=>by simp [dP] at h;exact ⟨u,w,rfl,rfl,h.symm⟩
 | u :: us,w :: ws,i + 1,x,h=>by
  simp only [dP,List.getElem?_cons_succ] at h ⊢
  exact mX h
theorem vY {f g:Bool} {K:PySem.W.Frag} {a c:Addr} {us ws:List U} {vs xs:List V} {H:Hp} {M:aF} (m:GJ f K H M a vs) (m':GJ g K H M c xs) (r:aI K H M us vs) (r':aI K H M ws xs):Walk K (Pr f g K a c) ⟨none,dP us ws⟩ H M:=by
 refine ⟨fun H1 M1 s rm _ i u e=>?_,fun H1 M1 s rm _=>⟨vs,xs,m _ _ s,m' _ _ s,by show (dP us ws).length=_;rw [o5,r.length,r'.length]⟩⟩
 obtain ⟨u,w,e1,e1',rfl⟩:=mX e
 obtain ⟨v,e2,ru⟩:=r.get e1
 obtain ⟨x,e2',ru'⟩:=r'.get e1'
 refine ⟨⟨vs,xs,v,x,m _ _ s,m' _ _ s,e2,e2'⟩,fun y H2 y'=>?_⟩
 obtain ⟨p,v',x',y1,y2,hp,rfl,rfl⟩:=y'
 have:=y1 vs (m _ _ s)
 rw [e2] at this;cases this
 have:=y2 xs (m' _ _ s)
 rw [e2'] at this;cases this
 have st:=aR.laid (o:=.tup [v,x]) rm hp
 have rr:aI K H1 M1 [u,w] [v,x]:=by
  simp only [aI]
  exact ⟨_,_,rfl,ru.stp s,_,_,rfl,ru'.stp s,rfl⟩
 exact ⟨st,rm.laid hp,v7 (rm.no hp) cJ (rr.stp st)⟩
def rG (ta:UA):UI:=fun τ M R=>ta τ M fun us M1=>match us with
 | [.tup us,.tup ws]=>R ⟨none,dP us ws⟩ M1
 | _=>False
theorem LW {K:PySem.W.Frag} {ta:TA} {ta':UA} (h:j5 K ta ta'):rF K (F3 false false K ta) (rG ta'):=fun σ τ H M R' rs rm q R c=>h σ τ H M _ rs rm q _ fun us vs M1 H1 s1 rm1 ru h1=>by
 split at h1
 ·obtain ⟨v,vs',rfl,a,b⟩:=ru.inv_cons
  obtain ⟨v2,rfl,a2⟩:=b.one
  simp only [aJ] at a a2
  obtain ⟨a,vs,rfl,m,r⟩:=a
  obtain ⟨a',vs',rfl,m',r'⟩:=a2
  exact ⟨a,a',rfl,⟨vs,BV m _ _ (aR.refl _ _)⟩,⟨vs',BV m' _ _ (aR.refl _ _)⟩,c _ _ M1 H1 s1 rm1 (vY (BV m) (BV m') r r') h1⟩
 ·exact h1.elim
theorem NZ {D:Dat} {elts:List Expr} {kk:Nat} {tpos:Pos} {a b:Expr} {p pos:Pos} {ta:UA} (hm:D.mg "zip"=none) (ha:lP D [a,b] ta) (hg:D.sc.names.lookup ("zip":Str)=some .globalImplicit:=by rfl) (hs:∀ env,starEach [a,b] env=[(false,eval a env),(false,eval b env)]:=by intro _;rfl) (hs2:∀ env,starEach [b] env=[(false,eval b env)]:=by intro _;rfl):rM D (.Tuple elts kk tpos) (.Call (.Name "zip" p) [a,b] [] pos) (rG ta):=by
 obtain ⟨_,q,s⟩:=ha
 exact ⟨_,fun X h=>h.K ▸ BI (by show X.env.scope.names.lookup _=_;rw [h.sc];exact hg) (by rw [h.mg];exact hm) (q X h) (hs _) (hs2 _),LW s⟩
def bJ (ta:UA):UI:=fun τ M R=>ta τ M fun us M1=>match us with
 | [.tup us,.lst ws]=>R ⟨none,dP us ws⟩ M1
 | _=>False
def wV (ta:UA):UI:=fun τ M R=>ta τ M fun us M1=>match us with
 | [.lst us,.lst ws]=>R ⟨none,dP us ws⟩ M1
 | _=>False
theorem HB {K:PySem.W.Frag} {ta:TA} {ta':UA} (h:j5 K ta ta'):rF K (F3 true true K ta) (wV ta'):=fun σ τ H M R' rs rm q R c=>h σ τ H M _ rs rm q _ fun us vs M1 H1 s1 rm1 ru h1=>by
 split at h1
 ·obtain ⟨v,vs',rfl,a,b⟩:=ru.inv_cons
  obtain ⟨v2,rfl,a2⟩:=b.one
  simp only [aJ] at a a2
  obtain ⟨a,vs,rfl,m,r⟩:=a
  obtain ⟨a',vs',rfl,m',r'⟩:=a2
  exact ⟨a,a',rfl,⟨vs,B5 m _ _ (aR.refl _ _)⟩,⟨vs',B5 m' _ _ (aR.refl _ _)⟩,c _ _ M1 H1 s1 rm1 (vY (B5 m) (B5 m') r r') h1⟩
 ·exact h1.elim
theorem Jb {D:Dat} {elts:List Expr} {kk:Nat} {tpos:Pos} {a b:Expr} {p pos:Pos} {ta:UA} (hm:D.mg "zip"=none) (ha:lP D [a,b] ta) (hg:D.sc.names.lookup ("zip":Str)=some .globalImplicit:=by rfl) (hs:∀ env,starEach [a,b] env=[(false,eval a env),(false,eval b env)]:=by intro _;rfl) (hs2:∀ env,starEach [b] env=[(false,eval b env)]:=by intro _;rfl):rM D (.Tuple elts kk tpos) (.Call (.Name "zip" p) [a,b] [] pos) (wV ta):=by
 obtain ⟨_,q,s⟩:=ha
 exact ⟨_,fun X h=>h.K ▸ BI (by show X.env.scope.names.lookup _=_;rw [h.sc];exact hg) (by rw [h.mg];exact hm) (q X h) (hs _) (hs2 _),HB s⟩
end U2
namespace U2
open PySem PySem.Spec PyProof.Rows L2
theorem Ak (l:Addr) (items:Array Value) (n:Nat) (b:Addr) (items2:Array Value) (n2:Nat) (dd:Option Addr) (sl:Array (Option Value)) (hc0:¬(!items.isEmpty && Builtin.List.listTooLong (items.size + items2.size))=true) (hc1:items.size<=sizeLine) (hs2:items.size + items2.size<=sizeLine + 1) :
  Meets (Builtin.«list.extend» ⟨[.ref l,.ref b],[]⟩) (fun _ R s=>s.heap.get? l=some { cls:=.type "list",dict:=none,data:=.seq items n,slots:=#[] }/\s.heap.get? b=some { cls:=.type "list",dict:=dd,data:=.seq items2 n2,slots:=sl }/\R (.ok (.ret Value.none)) { s with heap:=s.heap.update l (Obj.mapSeq fun x=>x++items2),toks:=s.toks }) :=
 .of_wp fun prog w A R s h=>by
  obtain ⟨hp,g,d,tk,os⟩:=s;obtain ⟨hl,hb,h⟩:=h
  have f1:=PySem.AutoSeq1.idx_int;have f2:=PySem.AutoSeq1.sub_tuple_tuple;have f3:=PySem.AutoSeq1.sub_list_list;have f4:=PySem.AutoSeq1.sub_tuple_list;have f5:=PySem.AutoSeq1.sub_list_tuple
  have hz':(items++items2).size<=sizeLine + 1:=by rw [Array.size_append];exact hs2
  wp_walk using (wpAny_updateSeq hl rfl (hz:=hc1) (_hz':=hz')),wpAny_loadPart' hl,wpAny_loadPart' hb
  exact ⟨_,rfl,h⟩
theorem E4 {X:Cx}:Lc X "list.extend" (A5 X.K):=by
 intro pins s σ H x vs v us Q I rx rv h
 obtain ⟨l,b,xs,zs,rfl,rfl,hH,hB,hz,q⟩:=h
 cases rx
 obtain ⟨u,rfl,ru⟩:=rv.one
 cases ru
 obtain ⟨z,its,n,r,hl,e⟩:=I.lstM hH
 obtain ⟨its2,r2,⟨⟨oc,od,odt,osl⟩,n2,e2,hc,hd,hdt⟩,hl2⟩:=I.list hB
 have hc':oc=.type "list":=hc
 have hdt':odt=.seq its2.toArray n2:=hdt
 subst hc' hdt'
 have l2:=r2.length
 have hsz:its.toArray.size + its2.toArray.size<=sizeLine:=by rw [List.size_toArray,List.size_toArray];omega
 have hlong:¬ (!its.toArray.isEmpty && Builtin.List.listTooLong (its.toArray.size + its2.toArray.size))=true:=by
  rw [Cb hsz,Bool.and_false]
  exact Bool.false_ne_true
 refine call_meets PySem.F.slot_list_extend ⟨_,e,rfl⟩ PySem.F.entry_list_extend (PySem.F.args_list_extend_2 _ _)
  (Ak l its.toArray n b its2.toArray n2 od osl hlong (by rw [List.size_toArray];omega) (by omega)) ⟨e,e2,?_⟩
 refine ⟨.non,_,I.lset (its':=its++its2) hH e (by simp) (r.append r2) ?_,rfl,q⟩
 rw [List.length_append]
 omega
variable {D:Dat} {o e:Expr} {ta:UE} {tas:UA} {pos:Pos}
theorem uW {apos:Pos} (ho:aV D o ta) (ha:lP D [e] tas) (hbase:∀ env,attributeBase o "extend" env (eval o env)=eval o env:=by intro _;rfl)
  (hfew:∀ env,((backTo pos (starEach [e] env)).all (fun x=>!x.1) && (backToKw pos (keywordEach [] env)).all (fun x=>x.1.isSome) && decide ([e].length + ([]:List Keyword).length + (if ([]:List Keyword).isEmpty then 0 else 1) < 30))=true:=by intro _;rfl)
  (hline:(apos.endLine == pos.line)=true:=by rfl) (hs:∀ env,starEach [e] env=[(false,eval e env)]:=by intro _;rfl):aV D (.Call (.Attribute o "extend" apos) [e] [] pos) (tR iW ta tas):=by
 obtain ⟨_,p,s⟩:=ho;obtain ⟨_,q,r⟩:=ha
 refine ⟨_,fun X h=>?_,Bg Gj s r⟩
 have:=EO (cpos:=pos) (apos:=apos) PySem.F.plainAttrs_list PySem.F.slot_list_extend PySem.F.type_list_extend E4 (p X h) (q X h) (hbase _) (hfew _) hline (hs _) (by rfl)
 rw [h.K] at this
 exact this
end U2
namespace U2
open PySem PySem.Spec PyProof.Rows L2
def intsOf:List U->Option (List Int)
 | []=>some []
 | .int i :: us=>(intsOf us).map (i :: ·)
 | _ :: _=>none
theorem oZ {K:PySem.W.Frag} {H:Hp} {M:aF}:∀ {us:List U} {vs:List V} {xs:List Int},aI K H M us vs->intsOf us=some xs->vs=xs.map V.int
 | [],vs,xs,r,e=>by cases e;exact r.inv_nil
 | u :: us,vs,xs,r,e=>by
  obtain ⟨v,vs',rfl,a,b⟩:=r.inv_cons
  cases u with
  | int i =>
   simp only [intsOf] at e
   cases e2:intsOf us with
   | none=>rw [e2] at e;cases e
   | some ys=>rw [e2] at e;cases e;rw [a.int,oZ b e2];rfl
  | _=>cases e
def qZ:eL:=fun x y M Q=>match x,y with
 | .int i,.int j=>Q (.bl (decide (i < j))) M
 | .tup us,.tup ws=>∃ xs ys,intsOf us=some xs/\intsOf ws=some ys/\Q (.bl (HT.lexLt xs ys)) M
 | _,_=>False
variable {D:Dat}
theorem xP:mY D .Lt qZ:=⟨⟨_,fun X h=>h.K ▸ Qv.or (PD h.room.units0),fun x y u w H M Q' rm ru rw h Q c=>by
 unfold qZ at h
 split at h
 ·rename_i i j
  exact .inl (qM (f:=fun i j=>decide (i < j)) x y (.int i) (.int j) H M Q' rm ru rw h Q c)
 ·rename_i us ws
  obtain ⟨xs,ys,e1,e2,q⟩:=h
  obtain ⟨a,vs,rfl,s1,r1⟩:=ru.tup
  obtain ⟨a',vs',rfl,s2,r2⟩:=rw.tup
  cases oZ r1 e1
  cases oZ r2 e2
  exact .inr ⟨a,a',xs,ys,rfl,rfl,s1,s2,c.here rm dD q⟩
 ·exact h.elim⟩⟩
end U2
namespace U2
open PySem PySem.Spec PyProof.Rows L2
def oI:Int->List Int->Int
 | m,[]=>m
 | m,n :: ns=>oI (if n > m then n else m) ns
theorem DU:∀ (ns:List Int) (m:Int),m<=oI m ns/\∀ n∈ns,n<=oI m ns
 | [],m=>⟨Int.le_refl _,fun n h=>by cases h⟩
 | k :: ns,m=>by
  obtain ⟨h1,h2⟩:=DU ns (if k > m then k else m)
  have hk:m<=(if k > m then k else m)/\k<=(if k > m then k else m):=by split <;> omega
  simp only [oI]
  refine ⟨by omega,fun n hn=>?_⟩
  rcases List.mem_cons.mp hn with rfl | hn
  ·omega
  ·exact h2 n hn
theorem Cj:∀ (ns:List Int) (m:Int),oI m ns=m\/oI m ns∈ns
 | [],m=>.inl rfl
 | k :: ns,m=>by
  simp only [oI]
  rcases Cj ns (if k > m then k else m) with h | h
  ·by_cases hk:k > m
   ·rw [if_pos hk] at h ⊢;exact .inr (by rw [h];exact List.mem_cons_self)
   ·rw [if_neg hk] at h ⊢;exact .inl h
  ·exact .inr (List.mem_cons_of_mem _ h)
theorem Nn {m M:Int} {ns:List Int} (h1:M=m\/M∈ns) (h2:m<=M) (h3:∀ n∈ns,n<=M):oI m ns=M:=by
 obtain ⟨g1,g2⟩:=DU ns m
 rcases Cj ns m with e | e
 ·rcases h1 with rfl | h1
  ·exact e
  ·have:=g2 M h1;omega
 ·have:=h3 _ e
  rcases h1 with rfl | h1
  ·omega
  ·have:=g2 M h1;omega
section
variable {X:Cx}
theorem HQ (hc:X.calm=true):iB X (.builtin "max") (fun xs H Q=>∃ p m ns,xs=[.ref p]/\eO X.K H p ((m :: ns).map V.int)/\Q (.int (oI m ns)) H):=by
 intro pins s σ H xs us Q I r h
 obtain ⟨p,m,ns,rfl,hq,q⟩:=h
 obtain ⟨u,rfl,rx⟩:=vals1 r
 cases rx
 obtain ⟨its,r',pl,hz⟩:=I.list hq
 have hi:IntsAre its (m :: ns):=intsAre_of r'
 obtain ⟨ys,e⟩:=hi.allInts.items
 have hns:(m :: ns)=ys.toList.map (·.1):=by
  rw [<- hi.numsOf,<- nums_intItems,<- e]
 have hsz:0 < ys.size:=by
  have h3:ns.length + 1=ys.size:=by have:=congrArg List.length hns;simpa using this
  omega
 have hl:=pl.isList
 rw [e] at hl
 refine max_intList (I.ok.hd hc) hl hsz fun v h' tk hv hk=>?_
 obtain ⟨t,rfl⟩:=intItems_at hv
 obtain ⟨h1,h2⟩:=argBest_gt (numAt ys) (ys.size - 1)
 have hM:oI m ns=numAt ys (argBest (fun i j=>decide (numAt ys i > numAt ys j)) (ys.size - 1)):=by
  have hin:numAt ys (argBest (fun i j=>decide (numAt ys i > numAt ys j)) (ys.size - 1))∈m :: ns:=by
   rw [hns,numAt_eq];exact getD_mem (by rw [List.length_map,Array.length_toList];omega)
  have hge:∀ a∈m :: ns,a<=numAt ys (argBest (fun i j=>decide (numAt ys i > numAt ys j)) (ys.size - 1)):=fun a ha=>by
   rw [hns] at ha
   obtain ⟨j,hj,rfl⟩:=mem_getD ha
   rw [List.length_map,Array.length_toList] at hj
   rw [<- numAt_eq];exact h2 j (by omega)
  exact Nn (List.mem_cons.mp hin) (hge m List.mem_cons_self) fun n hn=>hge n (List.mem_cons_of_mem _ hn)
 exact ⟨.int (oI m ns),H,I.kept hk,⟨t,by rw [hM]⟩,q⟩
def uL:List U->aF->UK->Prop:=fun us M Q=>match us with
 | [x]=>match view M x with
  | .lst ws=>∃ ns,intsOf ws=some ns/\PySem.SumFits ns/\Q (.int ns.sum) M
  | _=>False
 | _=>False
def p7:List U->aF->UK->Prop:=fun us M Q=>match us with
 | [.int i,.int j]=>Q (.int (if j > i then j else i)) M
 | [x]=>match view M x with
  | .lst ws=>∃ m ns,intsOf ws=some (m :: ns)/\Q (.int (oI m ns)) M
  | _=>False
 | _=>False
theorem BX {D:Dat}:tT D (.builtin "max") p7:=⟨⟨_,fun X h=>by
  have:=(ID (X:=X) h.calm).or (HQ h.calm);rw [h.K] at this;exact this,fun xs us H M Q' rm rus h Q c=>by
 unfold p7 at h
 split at h
 ·rename_i i j
  obtain ⟨v,z,rfl,a1,a2⟩:=rus.two
  cases a1.int;cases a2.int
  exact .inl ⟨i,j,rfl,c.here rm cT h⟩
 ·rename_i x
  obtain ⟨v,rfl,a1⟩:=rus.one
  split at h
  ·rename_i ws e
   obtain ⟨m,ns,e2,q⟩:=h
   obtain ⟨b,zvs,rfl,s2,r2⟩:=fL rm a1 e
   rw [oZ r2 e2] at s2
   exact .inr ⟨b,m,ns,rfl,s2,c.here rm cT q⟩
  ·exact h.elim
 ·exact h.elim⟩⟩
end
end U2
namespace U2
open PySem PySem.Spec PyProof.Rows L2
section
variable {D:Dat} {a b c e o i:Expr} {ta tb tc te to ti:UE} {pos p:Pos} {es:List Expr} {tas:UA} {x:Str}
def dE (te to ti:UE):US:=fun D τ M=>te τ M fun v M1=>to τ M1 fun x M2=>ti τ M2 fun y M3=>match x,y with
 | .ref a,.int k=>match M3 a with
  | some (.lst us)=>∃ j,qQ us.length k=some j/\D.nx τ (mup M3 a (.lst (us.set j v)))
  | _=>False
 | _,_=>False
def aD:U->List U->aF->UK->Prop:=fun x ws M Q=>match x,ws with
 | .ref a,[.int i]=>match M a with
  | some (.lst us)=>-(2 ^ 63)<=i/\i < 2 ^ 63/\∃ k y,seqIndex? i us.length=some k/\us[k]?=some y/\Q y (mup M a (.lst (us.eraseIdx k)))
  | _=>False
 | _,_=>False
theorem G1 {K:PySem.W.Frag}:vA K GB aD:=fun x xs u us H M Q' rm ru rus h Q c=>by
 unfold aD at h
 split at h
 ·rename_i a i
  split at h
  ·rename_i ws e
   obtain ⟨h1,h2,k,y,h3,h4,q⟩:=h
   obtain ⟨vs,hv,r⟩:=rm a _ e
   obtain ⟨v,rfl,a1⟩:=rus.one
   cases ru.ref
   cases a1.int
   obtain ⟨v,h5,h6⟩:=r.get h4
   exact ⟨a,vs,i,k,v,rfl,rfl,hv,h1,h2,by rw [<- r.length];exact h3,h5,c.write rm e (r.eraseIdx k) h6 q⟩
  ·exact h.elim
 ·exact h.elim
theorem wD {apos:Pos} (ho:aV D o ta) (ha:lP D [e] tas) (hbase:∀ env,attributeBase o "pop" env (eval o env)=eval o env:=by intro _;rfl)
  (hfew:∀ env,((backTo pos (starEach [e] env)).all (fun x=>!x.1) && (backToKw pos (keywordEach [] env)).all (fun x=>x.1.isSome) && decide ([e].length + ([]:List Keyword).length + (if ([]:List Keyword).isEmpty then 0 else 1) < 30))=true:=by intro _;rfl)
  (hline:(apos.endLine == pos.line)=true:=by rfl) (hs:∀ env,starEach [e] env=[(false,eval e env)]:=by intro _;rfl):aV D (.Call (.Attribute o "pop" apos) [e] [] pos) (tR aD ta tas):=by
 obtain ⟨_,p,s⟩:=ho;obtain ⟨_,q,r⟩:=ha
 refine ⟨_,fun X h=>?_,Bg G1 s r⟩
 have:=EO (cpos:=pos) (apos:=apos) PySem.F.plainAttrs_list PySem.F.slot_list_pop PySem.F.type_list_pop Kl (p X h) (q X h) (hbase _) (hfew _) hline (hs _) (by rfl)
 rw [h.K] at this
 exact this
def uS:List U->aF->UK->Prop:=fun us M Q=>match us with
 | [.int i]=>Q (.int i) M
 | [.bl k]=>Q (.int (if k then 1 else 0)) M
 | _=>False
theorem QB:tT D (.type "int") uS:=⟨⟨_,fun X h=>Hg,fun xs us H M Q' rm rus h Q c=>by
 unfold uS at h
 split at h
 ·rename_i j
  obtain ⟨v,rfl,a⟩:=rus.one
  cases a.int
  exact .inl ⟨j,rfl,c.here rm cT h⟩
 ·rename_i j
  obtain ⟨v,rfl,a⟩:=rus.one
  cases a.bl
  exact .inr ⟨j,rfl,c.here rm cT h⟩
 ·exact h.elim⟩⟩
def qP (i j:Int):Prop:=IV i j\/(Builtin.Int.intBits i<=60000000/\Builtin.Int.intBits j<=60000000)
theorem qP.ok {i j:Int} (h:qP i j):IntMulOk i j:=by
 rcases h with h | ⟨h1,h2⟩
 ·exact h.ok
 ·exact IntMulOk.of_le h1 h2 (by decide)
theorem L1 {X:Cx}:dG X (binaryOp .Mult) (rI qP fun i j=>.int (i * j)):=Lw fun _ _ _ _ _ _ _ hc q=>mul_int q hc.ok
def oH (z:Str) (n:Int):Str:=if n < 1 then Str.empty else if (n == 1 || z.length == 0)=true then z else ⟨(List.replicate n.toNat z.cps).foldl (·++·) #[]⟩
theorem Nu {X:Cx}:dG X (binaryOp .Mult) (fun x y H Q=>∃ z n,x=.str z/\y=.int n/\-(2 ^ 63)<=n/\n < 2 ^ 20/\z.length<=2 ^ 20/\z.length * n.toNat<=100000/\Q (.str (oH z n)) H):=by
 intro pins s σ H x y v u Q I rx ry h
 obtain ⟨z,n,rfl,rfl,h1,h2,h3,h4,q⟩:=h
 obtain ⟨t,rfl⟩:=rx
 obtain ⟨t',rfl⟩:=ry
 have e1:(decide (n < -(2 ^ 63:Int)) || decide (n ≥ 2 ^ 63))=false:=by
  rw [decide_eq_false (by omega),decide_eq_false (by omega)];rfl
 refine PySem.P.mul_str e1 (fun g1 g2=>?_) (fun g1 g2=>?_) ?_
 ·intro hh
  have hn:(1:Int)<=n:=by omega
  have e3:(z.length:Int) * n=((z.length * n.toNat:Nat):Int):=by
   rw [Int.natCast_mul,Int.toNat_of_nonneg (by omega)]
  have:=Int.le_ediv_of_mul_le (show (0:Int) < n by omega) (show (z.length:Int) * n<=2 ^ 63 - 1 by rw [e3];omega)
  omega
 ·unfold Builtin.Str.tooLong sizeLine
  exact decide_eq_false (by omega)
 ·have hq:∀ (t2:Tok) k,EP X pins σ Q (.str (oH z n) t2) { s with toks:=k }:=fun t2 k=>⟨.str (oH z n),H,I.tok k,⟨t2,rfl⟩,q⟩
  unfold oH at hq
  by_cases g1:n < 1
  ·rw [if_pos g1]
   simp only [if_pos g1] at hq
   exact ⟨by decide,hq _ _⟩
  ·rw [if_neg g1]
   simp only [if_neg g1] at hq
   by_cases g2:(n == 1 || z.length == 0)=true
   ·rw [if_pos g2]
    simp only [if_pos g2] at hq
    exact hq t s.toks
   ·rw [if_neg g2]
    simp only [if_neg g2] at hq
    refine ⟨?_,hq _ _⟩
    have hsz:∀ (k:Nat) (acc:Array Nat),((List.replicate k z.cps).foldl (·++·) acc).size=acc.size + k * z.cps.size:=by
     intro k
     induction k with
     | zero=>intro acc;simp
     | succ k ih=>intro acc;rw [List.replicate_succ,List.foldl_cons,ih,Array.size_append,Nat.succ_mul];omega
    show ((List.replicate n.toNat z.cps).foldl (·++·) #[]).size<=sizeLine
    rw [hsz]
    have h5:n.toNat * z.cps.size<=100000:=by rw [Nat.mul_comm];exact h4
    have:(100000:Nat)<=sizeLine:=by decide
    simp only [Array.size_empty,Nat.zero_add]
    omega
def tJ (o:Bool):eL:=fun x y M Q=>match x,y with
 | .int i,.int j=>qP i j/\Q (.int (i * j)) M
 | .str z,.int n=>-(2 ^ 63)<=n/\n < 2 ^ 20/\z.length<=2 ^ 20/\z.length * n.toNat<=100000/\Q (.str (oH z n)) M
 | .ref a,.int k=>match M a with
  | some (.lst us)=>-(2 ^ 63)<=k/\k < 2 ^ 63/\us.length * k.toNat<=sizeLine/\j2 o (List.replicate k.toNat us).flatten M Q
  | _=>False
 | _,_=>False
theorem aI.rep {K:PySem.W.Frag} {H:Hp} {M:aF} {us:List U} {vs:List V} (r:aI K H M us vs):∀ k:Nat,aI K H M (List.replicate k us).flatten (List.replicate k vs).flatten
 | 0=>by simp only [List.replicate_zero,List.flatten_nil];exact .nil
 | k + 1=>by simp only [List.replicate_succ,List.flatten_cons];exact r.append (aI.rep r k)
theorem LO {K:PySem.W.Frag} {o:Bool}:eP K (fun x y H Q=>rI qP (fun i j=>.int (i * j)) x y H Q\/((∃ z n,x=.str z/\y=.int n/\-(2 ^ 63)<=n/\n < 2 ^ 20/\z.length<=2 ^ 20/\z.length * n.toNat<=100000/\Q (.str (oH z n)) H)\/NY x y H Q)) (tJ o):=fun x y u w H M Q' rm ru rw h Q c=>by
 unfold tJ at h
 split at h
 ·rename_i i j
  exact .inl (qF (C:=qP) (f:=fun i j=>i * j) x y (.int i) (.int j) H M Q' rm ru rw h Q c)
 ·rename_i z n
  cases ru.str;cases rw.int
  exact .inr (.inl ⟨z,n,rfl,rfl,h.1,h.2.1,h.2.2.1,h.2.2.2.1,c.here rm lS h.2.2.2.2⟩)
 ·rename_i a k
  split at h
  ·rename_i us e
   obtain ⟨vs,hv,r⟩:=rm a _ e
   cases ru.ref;cases rw.int
   exact .inr (.inr ⟨a,k,vs,rfl,rfl,hv,h.1,h.2.1,by rw [<- r.length];exact h.2.2.1,fun p hp=>c.lst rm (r.rep k.toNat) hp h.2.2.2⟩)
  ·exact h.elim
 ·exact h.elim
theorem mD (own:Bool:=false) (ha:aV D a ta) (hb:aV D b tb):aV D (.BinOp a .Mult b pos) (fH (tJ own) ta tb):=u5 (fun _ _=>L1.or (Nu.or N2)) LO ha hb
def AQ (_ j:Int):Prop:=0 < j/\j < 2 ^ 64
theorem Jl {X:Cx}:dG X (binaryOp .FloorDiv) (rI AQ fun i j=>.int (i / j)):=Lw fun i j _ _ _ _ _ hc q=>by
 have h1:(0:Int) < j:=hc.1
 have h2:j.natAbs.log2 < 9000:=by
  have h3:j.natAbs < 2 ^ 64:=by have:=hc.2;omega
  by_cases h:j.natAbs=0
  ·rw [h];decide
  ·have:=(Nat.log2_lt h).mpr h3
   omega
 exact floordiv_int (by omega) (by rw [Int.fdiv_eq_ediv_of_nonneg i (by omega)];exact q) (.inl (PyProof.noPylong_of_log2 h2))
theorem eR (ha:aV D a ta) (hb:aV D b tb):aV D (.BinOp a .FloorDiv b pos) (fH (uI AQ fun i j=>.int (i / j)) ta tb):=u5 (fun _ _=>Jl) qF ha hb
end
end U2
namespace HT
open PySem PySem.Spec PyProof.Rows L2
variable {prog:Program} {w:World} {A:Around} {E:Value->Shared->Prop} {s:Shared}
theorem tZ {t sl:Addr} {items:Array Value} {vl vu:Value} {lo hi:Option Int} {Q:Value->Shared->Prop} (ht:IsTup s.heap t items) (hs:s.heap.IsSliceOf sl vl vu .none) (pl:IsPart vl lo) (pu:IsPart vu hi)
  (hw:bM items.size 0 lo=0/\bM items.size items.size hi=items.size)
  (h:Q (.ref t) s):wpAny (model prog w) A (getItem (.ref t) (.ref sl)) Q E s:=by
 obtain ⟨os,hos,hcs,hds⟩:=id hs
 have hTs:s.TypeIs (.ref sl) "slice":=⟨os,hos,hcs⟩
 unfold getItem
 try with_reducible refine wpAny_holding ?_
 first | refine wpAny_bind (wpAny_pure ?_) | skip
 refine wpAny_bind (wpAny_sequenceKey ht.typeIs (by decide) ?_)
 refine wpAny_bind (wpAny_callSpecial?_slot (name:=Str.ofString "__getitem__") ht.typeIs PyProof.Rows.slot_tuple_getitem
  (wpAny_call_entry PyProof.Rows.slot_tuple_getitem ht.typeIs entry_tuple_getitem ?_ (args_tuple_getitem _ _)))
 show wpAny _ _ (Builtin.Tuple.tupleItemsOf (.ref t) >>= _) _ _ s
 refine wpAny_bind (tupleItemsOf_ ht ?_)
 refine wpAny_bind (wpAny_typeOf hTs ?_)
 rw [if_pos (by decide)]
 refine wpAny_bind (qC hs pl pu ?_)
 have hyes:((((bM items.size 0 lo:Nat):Int) == 0 && (1:Int) == 1 && (bM items.size items.size hi - bM items.size 0 lo) == items.size)=true):=by
  rw [hw.1,hw.2];simp
 show wpAny _ _ (if (((bM items.size 0 lo:Nat):Int) == 0 && (1:Int) == 1 && (bM items.size items.size hi - bM items.size 0 lo) == items.size)=true then _ else _) _ _ s
 rw [if_pos hyes]
 unfold Builtin.Tuple.tupleIsExact
 refine wpAny_bind (wpAny_bind (wpAny_typeOf ht.typeIs (wpAny_pure ?_)))
 rw [if_pos (by decide)]
 refine wpAny_bind (wpAny_rule ?_)
 exact wpAny_pure ⟨_,rfl,wpAny_pure h⟩
end HT
namespace U2
open PySem PySem.Spec PyProof.Rows L2
def OP (K:PySem.W.Frag):V->Option Int->Option Int->Hp->VK->Prop:=fun x lo hi H Q=>∃ a xs,x=.ref a/\fW K H a xs/\(HT.bM xs.length 0 lo=0/\HT.bM xs.length xs.length hi=xs.length)/\Q (.ref a) H
theorem Mc {X:Cx}:vK X (OP X.K):=by
 intro pins s σ H x v vl vu lo hi sl Q I rx hs pl pu h
 obtain ⟨a,xs,rfl,hx,hw,q⟩:=h
 cases rx
 obtain ⟨its,r,ht,hz⟩:=I.tuple hx
 have hlen:its.toArray.size=xs.length:=by rw [List.size_toArray];exact r.length.symm
 refine ⟨"tuple",_,PyProof.Rows.slot_tuple_getitem.lookup,ht.typeIs,?_⟩
 refine HT.tZ ht hs pl pu (by rw [hlen];exact hw) ⟨.ref a,H,I,rfl,q⟩
def qW (o:Bool) (te:UE) (tl th:UO):UE:=fun τ M Q=>te τ M fun x M1=>tl τ M1 fun l M2=>th τ M2 fun h M3=>match view M3 x with
 | .lst us=>j2 o (j7 us l h) M3 Q
 | .tup us=>Q (.tup (j7 us l h)) M3
 | .str z=>z.length<=sizeLine/\Q (.str (Txt.slice z l h)) M3
 | _=>False
theorem Lz {K:PySem.W.Frag} {o:Bool} {te:TE} {te':UE} {tl th:TO} {tl' th':UO} (h0:bX K te te') (h1:A3 K tl tl') (h2:A3 K th th'):bX K (Q5 (fun x lo hi H Q=>N1 K x lo hi H Q\/OP K x lo hi H Q) te tl th) (qW o te' tl' th'):=fun σ τ H M Q' rs rm q Q c =>
 h0 σ τ H M _ rs rm q _ fun u v M1 H1 s1 rm1 ru q1=>h1 σ τ H1 M1 _ (rs.stp s1) rm1 q1 _ fun lo M2 H2 s2 rm2 q2=>h2 σ τ H2 M2 _ ((rs.stp s1).stp s2) rm2 q2 _ fun hi M3 H3 s3 rm3 q3=>by
  have c3:=cW.stp c ((s1.trans s2).trans s3)
  have ru3:=ru.stp (s2.trans s3)
  split at q3
  ·rename_i us e
   obtain ⟨a,xs,rfl,r1,r2⟩:=fL rm3 ru3 e
   exact .inl (.inl ⟨a,xs,rfl,r1,fun p hp=>c3.lst rm3 (D5 r2 lo hi) hp q3⟩)
  ·rename_i us e
   have e':=pJ e
   subst e'
   obtain ⟨a,xs,rfl,r1,r2⟩:=ru3.tup
   by_cases hw:HT.bM xs.length 0 lo=0/\HT.bM xs.length xs.length hi=xs.length
   ·refine .inr ⟨a,xs,rfl,r1,hw,c3 _ _ M3 H3 (aR.refl _ _) rm3 ?_ q3⟩
    have e4:j7 us lo hi=us:=by
     unfold j7
     rw [r2.length,hw.1,hw.2,List.drop_zero,Nat.sub_zero,<- r2.length,List.take_length]
    rw [e4]
    exact ru3
   ·exact .inl (.inr (.inl ⟨a,xs,rfl,r1,hw,fun p hp=>c3.tup rm3 (D5 r2 lo hi) hp q3⟩))
  ·rename_i z e
   have e':=vW e
   subst e'
   exact .inl (.inr (.inr ⟨z,ru3.str,q3.1,c3 _ _ M3 H3 (aR.refl _ _) rm3 lS q3.2⟩))
  ·exact q3.elim
theorem mV {D:Dat} {a:Expr} {ta:UE} {pos:Pos} (own:Bool:=false) {lo hi:Option Expr} {tl th:UO} {p2:Pos} (ha:aV D a ta) (hl:K2 D lo tl) (hh:K2 D hi th):aV D (.Subscript a (.Slice lo hi none p2) pos) (qW own ta tl th):=by
 obtain ⟨_,p,s⟩:=ha;obtain ⟨_,q,r⟩:=hl;obtain ⟨_,u,v⟩:=hh
 refine ⟨_,fun X h=>?_,Lz s r v⟩
 have:=JG (pos:=pos) (p2:=p2) (Oy.or Mc) (p X h) (q X h) (u X h)
 rw [h.K] at this
 exact this
end U2
namespace Att
open PySem PySem.Spec PyProof.Rows PySem.W Calls
end Att
namespace L2
open PySem PySem.Spec PyProof.Rows
end L2
namespace U2
open PySem PySem.Spec PyProof.Rows L2
theorem boot_reversed:bootBuiltins "reversed"=some (.type "reversed"):=by kernel_rfl
def eD (ta:UA):UI:=fun τ M R=>ta τ M fun us M1=>match us with
 | [.lst us]=>R ⟨none,us.reverse⟩ M1
 | _=>False
end U2
namespace U2
open PySem PySem.Spec PyProof.Rows L2
theorem Il:typeLookup (.type "list_reverseiterator") "__len__"=pure none:=by rw [typeLookup_type,builtinLookup_eq_fast];kernel_rfl
theorem J7:typeLookup (.type "list_reverseiterator") "__length_hint__"=pure (some (.builtin "list_reverseiterator.__length_hint__")):=by rw [typeLookup_type,builtinLookup_eq_fast];kernel_rfl
section
variable {prog:Program} {w:World} {A:Around} {E:Value->Shared->Prop} {s:Shared}
theorem Ej {R:Result->Shared->Prop} {it l:Addr} {items:Array Value} (hh:A.handled=none) (hit:s.heap.IsRevIter it l ((items.size:Int) - 1)) (hl:s.heap.IsList l items) (hne:l≠it) (hlen:items.size<=sizeLine) (S:Addr) (res:Value) (c₀:Nat)
  (hS:s.heap.get? S=some { cls:=.type "list",data:=.seq #[] c₀ }) (hSl:S≠l) (hSi:S≠it)
  (hR:∀ h' tk acc' c',(∀ b o,b≠S->b≠it->s.heap.get? b=some o->h'.get? b=some o)->h'.get? S=some { cls:=.type "list",dict:=none,data:=.seq acc' c',slots:=#[] } ->
   ItemsOf (fun i v=>items[items.size - 1 - i]?=some v) acc' items.size->R (.ok (.ret res)) { s with heap:=h',toks:=tk }) :
  wpAny (model prog w) A.in1 (Builtin.List.listExtendWith (.ref S) (.ref it) res)
   (fun fin s'=>match fin with | .done f=>R (.ok f) s' | .again c'=>c'.quiet=true/\codeAny (model prog w) A c' R s') (fun e s'=>R (.error e) s') s:=by
 have hSf:S ∉ [it,l]:=fun hm=>by
  rcases List.mem_cons.mp hm with e | hm
  ·exact hSi e
  ·exact hSl (List.mem_singleton.mp hm)
 have W:=(Walks.listRev (prog:=prog) (w:=w) (A:=A.in1) hh it l hne items).toS
 have e0:((items.size:Int) - 1 - ((0:Nat):Int))=(items.size:Int) - 1:=by omega
 have hst:(0<=items.size/\s.heap.IsRevIter it l ((items.size:Int) - 1 - ((0:Nat):Int))/\s.heap.IsList l items):=⟨Nat.zero_le _,by rw [e0];exact hit,hl⟩
 have h1:Builtin.List.listSameRef (.ref S) (.ref it)=false:=by simp [Builtin.List.listSameRef,hSi]
 unfold Builtin.List.listExtendWith
 refine wpAny_bind (wpAny_typeOf hit.typeIs ?_)
 rw [if_neg (by rw [h1];decide)]
 refine wpAny_bind (wpAny_pyIter_revIter hit ?_)
 refine wpAny_bind (wpAny_holding ?_)
 unfold Builtin.List.listLengthHint
 refine wpAny_bind (wpAny_specialOf hit.typeIs Il ?_)
 show wpAny _ A.in1 (specialOf (Value.ref it) (Str.ofString "__length_hint__") >>= _) _ _ _
 refine wpAny_bind (wpAny_specialOf hit.typeIs J7 ?_)
 generalize hid:("list_reverseiterator.__length_hint__":String)=id0
 wp_delta
 rw [show splitId id0=some ("list_reverseiterator","__length_hint__") from by subst hid;decide +kernel]
 subst hid
 refine wpAny_bind (wpAny_isInstance (b:=true) hit.typeIs (by rw [isSubtype_type];kernel_rfl) ?_)
 refine wpAny_pure ?_
 rw [if_neg (by decide)]
 refine wpAny_pure ⟨plainId_quiet F.plain_extend_loop _,codeAny_extend_loopS W hlen S hSf res items.size 0 _ #[] c₀ rfl (Nat.zero_le _) hst hS (ItemsOf.nil _) fun s' acc' c' hm hS' hacc=>?_⟩
 rw [Moved.eq_with hm]
 refine hR s'.heap s'.toks acc' c' (fun b o hb hb2 e=>hm.heap b o (fun hmem=>?_) e) hS' hacc
 rcases List.mem_cons.mp hmem with e' | hmem
 ·exact hb e'
 ·exact hb2 (List.mem_singleton.mp hmem)
theorem Az {R:Result->Shared->Prop} {it l:Addr} {items:Array Value} (hh:A.handled=none) (hit:s.heap.IsRevIter it l ((items.size:Int) - 1)) (hl:s.heap.IsList l items) (hne:l≠it) (hlen:items.size<=sizeLine) (S:Addr)
  (hS:s.heap.get? S=some { cls:=.type "list",data:=.seq #[] }) (hSl:S≠l) (hSi:S≠it)
  (hR:∀ h' tk acc' c',(∀ b o,b≠S->b≠it->s.heap.get? b=some o->h'.get? b=some o)->h'.get? S=some { cls:=.type "list",dict:=none,data:=.seq acc' c',slots:=#[] } ->
   ItemsOf (fun i v=>items[items.size - 1 - i]?=some v) acc' items.size->R (.ok (.ret .none)) { s with heap:=h',toks:=tk }) :
  wpAny (model prog w) A.in1 (Builtin.«list.__init__» ⟨[.ref S,.ref it],[]⟩)
   (fun fin s'=>match fin with | .done f=>R (.ok f) s' | .again c'=>c'.quiet=true/\codeAny (model prog w) A c' R s') (fun e s'=>R (.error e) s') s:=by
 show wpAny _ _ (do let old <- Builtin.List.listItems (.ref S);Builtin.List.listUpdate (.ref S) (fun _=>#[]);letGo old.toList.reverse;Builtin.List.listExtendWith (.ref S) (.ref it) .none) _ _ s
 refine wpAny_bind ?_
 unfold Builtin.List.listItems
 refine wpAny_bind (wpAny_seqItems hS rfl (wpAny_pure ?_))
 show wpAny _ _ (updateSeq S (fun _=>#[]) >>= fun _=>letGo (#[]:Array Value).toList.reverse >>= fun _=>Builtin.List.listExtendWith (.ref S) (.ref it) .none) _ _ s
 refine wpAny_bind (wpAny_updateSeq hS rfl ?_)
 have hS₂:=Heap.get?_update_self (Obj.mapSeq (fun _=>(#[]:Array Value))) hS rfl
 have oth:∀ b o,b≠S->s.heap.get? b=some o->(s.heap.update S (Obj.mapSeq (fun _=>(#[]:Array Value)))).get? b=some o :=
  fun b o hb e=>(Heap.get?_update_other _ _ (Ne.symm hb)).trans e
 refine wpAny_bind (wpAny_letGo ?_)
 refine Ej hh (hit.at fun o e=>oth it o (Ne.symm hSi) e) (hl.at fun o e=>oth l o (Ne.symm hSl) e) hne hlen S .none _ hS₂ hSl hSi fun h' tk acc' c' hk hS' hacc=>?_
 exact hR h' tk acc' c' (fun b o hb hb2 e=>hk b o hb hb2 (oth b o hb e)) hS' hacc
theorem Aw {Q:Value->Shared->Prop} {it l:Addr} {items:Array Value} (hh:A.handled=none) (hit:s.heap.IsRevIter it l ((items.size:Int) - 1)) (hl:s.heap.IsList l items) (hne:l≠it) (hlen:items.size<=sizeLine)
  (hQ:∀ h' tk acc' c',(∀ b o,b≠it->s.heap.get? b=some o->h'.get? b=some o) ->
   h'.get? s.heap.objs.size=some { cls:=.type "list",dict:=none,data:=.seq acc' c',slots:=#[] }->ItemsOf (fun i v=>items[items.size - 1 - i]?=some v) acc' items.size->Q (.ref s.heap.objs.size) { s with heap:=h',toks:=tk }) :
  wpAny (model prog w) A (call (.type "list") [.ref it]) Q E s:=by
 obtain ⟨oi,hoi,_⟩:=id hit
 obtain ⟨ol,hol,_⟩:=id hl
 refine callType_codes (Q₁:=fun obj s₁=>obj=.ref s.heap.objs.size/\s₁={ s with heap:=s.heap.push { cls:=.type "list",data:=.seq #[] } }) F.called_list (F.typeCall_list_1 _) F.entry_list_init
  (code_list_new _ ⟨rfl,rfl⟩) fun obj s₁ h₁=>?_
 obtain ⟨rfl,rfl⟩:=h₁
 have hS:(s.heap.push { cls:=.type "list",data:=.seq #[] }).get? s.heap.objs.size=some { cls:=.type "list",data:=.seq #[] }:=Heap.get?_push_size _ rfl
 refine ⟨⟨_,hS,rfl⟩,F.args_list_init_2 _ _,Az (A:=A.in1) hh (hit.at fun o e=>Heap.get?_push_of_some _ e) (hl.at fun o e=>Heap.get?_push_of_some _ e) hne hlen _ hS (fun z=>Nat.lt_irrefl _ (z ▸ Heap.lt_size hol)) (fun z=>Nat.lt_irrefl _ (z ▸ Heap.lt_size hoi)) fun h' tk acc' c' hk hS' hacc=>?_⟩
 exact ⟨rfl,hQ h' tk acc' c' (fun b o hb e=>hk b o (Nat.ne_of_lt (Heap.lt_size e)) hb (Heap.get?_push_of_some _ e)) hS' hacc⟩
end
theorem xB:bootBuiltins "list"=some (.type "list"):=by kernel_rfl
theorem zF {its:List Value} {acc:Array Value} (h:ItemsOf (fun i v=>its.toArray[its.toArray.size - 1 - i]?=some v) acc its.toArray.size):acc=its.reverse.toArray:=by
 obtain ⟨h1,h2⟩:=h
 have hs:its.toArray.size=its.length:=by simp
 rw [hs] at h1
 refine Array.ext (by simpa using h1) fun j hj hj2=>?_
 have:=h2 j acc[j] (by simp [hj])
 rw [hs] at this
 have h3:its[its.length - 1 - j]?=some acc[j]:=by simpa using this
 have h4:its.reverse[j]?=some acc[j]:=by rw [List.getElem?_reverse (by omega)];exact h3
 have h5:=(List.getElem?_eq_some_iff.mp h4).2
 simpa using h5.symm
def Bd (K:PySem.W.Frag) (ta:TA):TE:=fun σ H Q=>ta σ H fun vs H1=>∃ a xs,vs=[.ref a]/\eO K H1 a xs/\∀ p,H1 p=none->Q (.ref p) (upd H1 p (.lst xs.reverse))
theorem Ey {X:Cx} {a:Expr} {ta:TA} {p1 p2 pos1 pos2:Pos} (hc:X.calm=true) (hgL:Gl X "list") (hmL:X.mg "list"=none) (hgR:Gl X "reversed") (hmR:X.mg "reversed"=none) (ha:PA X [a] ta) (hs:starEach [a] X.env=[(false,eval a X.env)])
  (hs2:starEach [.Call (.Name "reversed" p2) [a] [] pos2] X.env=[(false,eval (.Call (.Name "reversed" p2) [a] [] pos2) X.env)]) :
  PE X (.Call (.Name "list" p1) [.Call (.Name "reversed" p2) [a] [] pos2] [] pos1) (Bd X.K ta):=by
 intro pins s σ H Q I h
 refine Call_ (jO I hgL hmL xB (PyProof.Rows.callWith_type1 ?_ hs2 rfl))
 rw [hs2]
 show wpAny _ _ (spliced ((false,eval (.Call (.Name "reversed" p2) [a] [] pos2) X.env) :: backTo pos1 [])) _ _ s
 refine Calls.spliced_cons (Call_ (jO I hgR hmR boot_reversed (PyProof.Rows.callWith_type1 (bG (ha pos2 pins s σ H _ I h) fun us s1 ⟨vs,H1,I1,r1,q1⟩=>?_) hs rfl)))
 obtain ⟨b,xs,e,hq,q⟩:=q1
 subst e
 cases r1 with
 | cons r rr =>
  cases rr
  cases r
  obtain ⟨its,rv,pl,hz⟩:=I1.list hq
  have hl:=pl.isList
  obtain ⟨ol,hol,_⟩:=id hl
  refine call_reversed_list hl (Calls.spliced_nil ?_)
  have hrev:Heap.IsRevIter (s1.heap.push (revObj b ((its.toArray.size:Int) - 1))) s1.heap.objs.size b ((its.toArray.size:Int) - 1):=⟨_,Heap.get?_push_size _ rfl,rfl,rfl⟩
  refine Aw (s:={ s1 with heap:=s1.heap.push (revObj b ((its.toArray.size:Int) - 1)) }) (I1.ok.hd hc) hrev (hl.at fun o e=>Heap.get?_push_of_some _ e) (Nat.ne_of_lt (Heap.lt_size hol)) (by rw [List.size_toArray,<- rv.length];exact hz) fun h' tk acc' c' hk hS' hacc=>?_
  have hacc':=zF hacc
  subst hacc'
  have hsz:(s1.heap.push (revObj b ((its.toArray.size:Int) - 1))).objs.size=s1.heap.objs.size + 1:=Heap.size_push ..
  have hD:H1 (s1.heap.push (revObj b ((its.toArray.size:Int) - 1))).objs.size=none:=I1.hok.fresh (by rw [hsz];omega)
  refine ⟨.ref (s1.heap.push (revObj b ((its.toArray.size:Int) - 1))).objs.size,_,I1.laid (t':=tk) (o:=.lst xs.reverse) (fun c o e=>hk c o (Nat.ne_of_lt (Heap.lt_size e)) (Heap.get?_push_of_some _ e)) (by rw [hsz];omega) ⟨by rw [List.length_reverse];exact hz,its.reverse,c',rv.reverse,hS'⟩,rfl,q _ hD⟩
def bE (o:Bool) (ta:UA):UE:=fun τ M Q=>ta τ M fun us M1=>match us with
 | [x]=>match view M1 x with
  | .lst us=>j2 o us.reverse M1 Q
  | _=>False
 | _=>False
theorem C9 {K:PySem.W.Frag} {o:Bool} {ta:TA} {ta':UA} (h:j5 K ta ta'):bX K (Bd K ta) (bE o ta'):=fun σ τ H M Q' rs rm q Q c=>h σ τ H M _ rs rm q _ fun us vs M1 H1 s1 rm1 ru h1=>by
 split at h1
 ·rename_i x
  split at h1
  ·rename_i ws e
   obtain ⟨v,rfl,a1⟩:=ru.one
   obtain ⟨a,zs,rfl,sq,r2⟩:=fL rm1 a1 e
   exact ⟨a,zs,rfl,sq,fun p hp=>(cW.stp c s1).lst rm1 r2.reverse hp h1⟩
  ·exact h1.elim
 ·exact h1.elim
theorem Fd {D:Dat} (own:Bool:=false) {a:Expr} {p1 p2 pos1 pos2:Pos} {ta:UA} (hmL:D.mg "list"=none) (hmR:D.mg "reversed"=none) (ha:lP D [a] ta) (hgL:D.sc.names.lookup ("list":Str)=some .globalImplicit:=by rfl) (hgR:D.sc.names.lookup ("reversed":Str)=some .globalImplicit:=by rfl)
  (hs:∀ env,starEach [a] env=[(false,eval a env)]:=by intro _;rfl) (hs2:∀ env,starEach [.Call (.Name "reversed" p2) [a] [] pos2] env=[(false,eval (.Call (.Name "reversed" p2) [a] [] pos2) env)]:=by intro _;rfl) :
  aV D (.Call (.Name "list" p1) [.Call (.Name "reversed" p2) [a] [] pos2] [] pos1) (bE own ta):=by
 obtain ⟨_,q,s⟩:=ha
 refine ⟨_,fun X h=>?_,C9 s⟩
 have:=Ey (X:=X) (p1:=p1) (p2:=p2) (pos1:=pos1) (pos2:=pos2) h.calm (by show X.env.scope.names.lookup _=_;rw [h.sc];exact hgL) (by rw [h.mg];exact hmL) (by show X.env.scope.names.lookup _=_;rw [h.sc];exact hgR) (by rw [h.mg];exact hmR) (q X h) (hs _) (hs2 _)
 rw [h.K] at this
 exact this
end U2
namespace U2
open PySem PySem.Spec PyProof.Rows L2
section
variable {prog:Program} {w:World} {A:Around} {E:Value->Shared->Prop} {s:Shared}
end
def bI (te to ti:UE):US:=fun D τ M=>te τ M fun v M1=>to τ M1 fun x M2=>ti τ M2 fun y M3=>match v,x,y with
 | .ref b,.ref l,.int a=>match M3 b,M3 l with
  | some (.lst ws),some (.lst us)=>l≠b/\0<=a/\a<=us.length/\us.length + ws.length<=sizeLine/\D.nx τ (mup M3 l (.lst (us.take a.toNat++ws)))
  | _,_=>False
 | _,_,_=>False
end U2
namespace U2
open PySem PySem.Spec PyProof.Rows L2
end U2
namespace U2
open PySem PySem.Spec PyProof.Rows L2
theorem y6:∀ {us:List Value} {ns:List Int},IntsAre us ns->Vals (ns.map V.int) us
 | _,_,.nil=>.nil
 | _,_,.cons n t r=>.cons ⟨t,rfl⟩ (y6 r)
theorem wM {K:PySem.W.Frag} {H:Hp} {M:aF}:∀ ns:List Int,aI K H M (ns.map U.int) (ns.map V.int)
 | []=>.nil
 | n :: ns=>by
  have:=wM (K:=K) (H:=H) (M:=M) ns
  simp only [List.map_cons,aI]
  exact ⟨_,_,rfl,cT,this⟩
theorem iA.len {K:PySem.W.Frag} {H:Hp}:∀ {ds:List PyData} {vs:List V},iA K H ds vs->ds.length=vs.length
 | [],vs,h=>by simp only [iA] at h;subst h;rfl
 | d :: ds,vs,h=>by
  simp only [iA] at h
  obtain ⟨v,vs',rfl,_,h2⟩:=h
  simp only [List.length_cons,iA.len h2]
end U2
namespace U2
open PySem PySem.Spec PyProof.Rows L2
def strsOf:List U->Option (List Str)
 | []=>some []
 | .str x :: r=>(strsOf r).map (x :: ·)
 | _=>none
theorem FH:∀ ss:List Str,strsOf (ss.map U.str)=some ss
 | []=>rfl
 | s :: ss=>by simp only [List.map_cons,strsOf,FH ss];rfl
theorem EV {K:PySem.W.Frag} {H:Hp} {M:aF}:∀ {us:List U} {vs:List V} {ss:List Str},aI K H M us vs->strsOf us=some ss->vs=ss.map V.str
 | [],vs,ss,r,e=>by cases e;exact r.inv_nil
 | u :: us,vs,ss,r,e=>by
  obtain ⟨v,vs',rfl,a,b⟩:=r.inv_cons
  cases u with
  | str x =>
   simp only [strsOf] at e
   cases e2:strsOf us with
   | none=>rw [e2] at e;cases e
   | some ss' =>
    rw [e2] at e;cases e
    rw [a.str,EV b e2];rfl
  | _=>cases e
end U2
namespace U2
open PySem PySem.Spec PyProof.Rows L2
end U2
namespace U2
open PySem PySem.Spec PyProof.Rows L2
end U2
namespace U2
open PySem PySem.Spec PyProof.Rows L2
theorem t9:Manifest.owners.lookup (String.ofList ['d','e','s','r','e','v','e','r'].reverse)=some Manifest.sig_reversed:=by kernel_rfl
theorem jP:Slot "reversed" "__next__" "reversed.__next__" :=
 .of (owner:="reversed") (n:="__next__") (by rw [typeLookup_type,builtinLookup_eq_fast];kernel_rfl) (by decide +kernel) (by decide +kernel) (by decide +kernel)
  (by first | exact .inl (by decide +kernel) | exact .inr (by decide +kernel)) (by rw [isSubtype_type];kernel_rfl)
theorem sI:entryFor table "reversed.__next__"=some Builtin.«reversed.__next__»:=entryFor_of_tree (by kernel_rfl)
theorem tY (a:Value):argsOk "reversed.__next__" ⟨[a],[]⟩:=by
 unfold argsOk;rw [signature?_of (id:="reversed.__next__") (n:=['_','_','t','x','e','n','_','_']) (o:=['d','e','s','r','e','v','e','r']) (by kernel_rfl) t9];kernel_rfl
theorem tQ:Slot "reversed" "__iter__" "reversed.__iter__" :=
 .of (owner:="reversed") (n:="__iter__") (by rw [typeLookup_type,builtinLookup_eq_fast];kernel_rfl) (by decide +kernel) (by decide +kernel) (by decide +kernel)
  (by first | exact .inl (by decide +kernel) | exact .inr (by decide +kernel)) (by rw [isSubtype_type];kernel_rfl)
theorem Ai (a:Value):argsOk "reversed.__iter__" ⟨[a],[]⟩:=by
 unfold argsOk;rw [signature?_of (id:="reversed.__iter__") (n:=['_','_','r','e','t','i','_','_']) (o:=['d','e','s','r','e','v','e','r']) (by kernel_rfl) t9];kernel_rfl
theorem yF:entryFor table "reversed.__iter__"=some Builtin.«dict_keyiterator.__iter__» :=
 entryFor_alias (id':="dict_keyiterator.__iter__") (by kernel_rfl) (by first | rfl | decide +kernel | (unfold String.splitOn;simp +decide [String.splitOnAux])) (by decide +kernel) (by kernel_rfl)
theorem GI:typeLookup (.type "reversed") "__len__"=pure none:=by rw [typeLookup_type,builtinLookup_eq_fast];kernel_rfl
theorem oB:Slot "reversed" "__length_hint__" "reversed.__length_hint__" :=
 .of (owner:="reversed") (n:="__length_hint__") (by rw [typeLookup_type,builtinLookup_eq_fast];kernel_rfl) (by decide +kernel) (by decide +kernel) (by decide +kernel)
  (by first | exact .inl (by decide +kernel) | exact .inr (by decide +kernel)) (by rw [isSubtype_type];kernel_rfl)
theorem yT:entryFor table "reversed.__length_hint__"=some Builtin.«reversed.__length_hint__»:=entryFor_of_tree (by kernel_rfl)
theorem Ay (a:Value):argsOk "reversed.__length_hint__" ⟨[a],[]⟩:=by
 unfold argsOk;rw [signature?_of (id:="reversed.__length_hint__") (n:="__length_hint__".toList.reverse) (o:=['d','e','s','r','e','v','e','r']) (by kernel_rfl) t9];kernel_rfl
theorem Cu:typeLookup (.type "tuple") "__reversed__"=pure none:=by rw [typeLookup_type,builtinLookup_eq_fast];kernel_rfl
theorem AA:Slot "reversed" "__init__" "object.__init__" :=
 .of (owner:="object") (n:="__init__") (by rw [typeLookup_type,builtinLookup_eq_fast];kernel_rfl) (by decide +kernel) (by decide +kernel) (by decide +kernel)
  (by first | exact .inl (by decide +kernel) | exact .inr (by decide +kernel)) (by rw [isSubtype_type];kernel_rfl)
theorem sR:TypeCalled "reversed" "reversed.__new__" "object.__init__" :=
 ⟨by decide +kernel,F.create_reversed,⟨_,_,F.mro_reversed⟩,F.made_reversed,by decide +kernel,F.sub_reversed_self,AA⟩
def pG (t:Addr) (i:Int):Obj:={ cls:=.type "reversed",data:=.fields #[.ref t,rawInt i] }
def iQ (h:Heap) (a t:Addr) (i:Int):Prop:=∃ o,h.get? a=some o/\o.cls=.type "reversed"/\o.data=.fields #[.ref t,rawInt i]
theorem iQ.typeIs {s:Shared} {a l:Addr} {i:Int} (x:iQ s.heap a l i):s.TypeIs (.ref a) "reversed":=let ⟨o,ho,hc,_⟩:=x;⟨o,ho,hc⟩
theorem iQ.at {h h':Heap} {a l:Addr} {i:Int} (x:iQ h a l i) (e:∀ o,h.get? a=some o->h'.get? a=some o):iQ h' a l i:=let ⟨o,ho,r⟩:=x;⟨o,e _ ho,r⟩
section
variable {prog:Program} {w:World} {A:Around} {E:Value->Shared->Prop} {s:Shared}
theorem B7:isSubtype (.type "tuple") (.type "dict")=pure false:=by rw [isSubtype_type];kernel_rfl
theorem B4 {t:Addr} {items:Array Value} {Q₁:Value->Shared->Prop} (ht:IsTup s.heap t items) (hz:(items.size:Int) < 2 ^ 63)
  (h:∀ tk,Q₁ (.ref s.heap.objs.size) { s with heap:=s.heap.push (pG t ((items.size:Int) - 1)),toks:=tk }) :
  codeAny (model prog w) A (.call (.builtin "reversed.__new__") ⟨[.type "reversed",.ref t],[]⟩) (wants Q₁ E) s:=by
 refine codeAny_of_tree ?_
 show wpAny _ A.in1 (do checkBuiltinCall "reversed.__new__" ⟨[.type "reversed",.ref t],[]⟩;again (.builtin "reversed.__new__" ⟨[.type "reversed",.ref t],[]⟩)) _ _ s
 refine wpAny_bind (wpAny_of_eq (F.newCall_reversed_1 _) (wpAny_pure ⟨plainId_quiet F.plain_reversed_new _,codeAny_builtin F.entry_reversed_new ?_⟩))
 rw [Around.under_plainId F.plain_reversed_new _]
 unfold Builtin.«reversed.__new__»
 refine wpAny_bind (wpAny_of_eq (newClass_reversed _) ?_)
 try dsimp only
 refine wpAny_bind (wpAny_of_eq (a:=()) (by first | rfl | kernel_rfl) ?_)
 refine wpAny_bind (wpAny_of_eq (a:=()) (by first | rfl | kernel_rfl) ?_)
 try dsimp only
 refine wpAny_bind (wpAny_specialOf ht.typeIs Cu ?_)
 try dsimp only
 refine wpAny_bind ?_
 show wpAny _ _ (isInstance (.ref t) (.type "dict") >>= _) _ _ _
 refine wpAny_bind (wpAny_isInstance (b:=false) ht.typeIs B7 ?_)
 show wpAny _ _ (specialOf (.ref t) (Str.ofString "__getitem__") >>= _) _ _ _
 refine wpAny_bind (wpAny_specialOf ht.typeIs slot_tuple_getitem.lookup ?_)
 dsimp only
 rw [if_pos (by decide +kernel)]
 refine wpAny_pure ?_
 rw [if_neg (by decide)]
 refine wpAny_bind (len_tuple ht hz ?_)
 refine wpAny_bind (m:=asInt? (.int items.size _)) (wpAny_pure ?_)
 dsimp only
 unfold Builtin.SmallTypes.newRecord
 refine wpAny_bind (wpAny_newObj_type ?_)
 exact wpAny_pure (h _)
theorem t5 {t:Addr} {items:Array Value} {Q:Value->Shared->Prop} (ht:IsTup s.heap t items) (hz:(items.size:Int) < 2 ^ 63)
  (h:∀ tk,Q (.ref s.heap.objs.size) { s with heap:=s.heap.push (pG t ((items.size:Int) - 1)),toks:=tk }):wpAny (model prog w) A (call (.type "reversed") [.ref t]) Q E s:=by
 refine callType_codes (Q₁:=fun obj s₁=>s₁.TypeIs obj "reversed"/\Q obj s₁) sR (F.typeCall_reversed_1 _) F.entry_object_init
  (B4 ht hz fun tk=>⟨⟨_,Heap.get?_push_size _ rfl,rfl⟩,h tk⟩) fun obj s₁ h₁=>?_
 exact ⟨h₁.1,F.args_object_init_2 obj _,object_init_meets sR.init.lookup sR.made (by decide) prog w A.in1 _ s₁ ⟨h₁.1,rfl,h₁.2⟩⟩
theorem F9 {it l:Addr} {i:Int} {Q:Value->Shared->Prop} (hit:iQ s.heap it l i) (h:Q (.ref it) s):wpAny (model prog w) A (pyIter (.ref it)) Q E s:=by
 refine wpAny_pyIter_slot hit.typeIs tQ (wpAny_call_entry tQ hit.typeIs yF ?_ (Ai _))
 show wpAny _ _ (ret (.ref it)) _ _ s
 exact wpAny_pure ⟨_,rfl,"reversed",_,hit.typeIs,jP.lookup,h⟩
theorem wZ {it t:Addr} {i:Nat} {items:Array Value} {x:Value} {Q:Option Value->Shared->Prop} (hit:iQ s.heap it t (i:Int)) (ht:IsTup s.heap t items) (hne:t≠it) (hz:(items.size:Int) < 2 ^ 63) (hx:items[i]?=some x)
  (hQ:∀ h' tk,iQ h' it t ((i:Int) - 1)->Heap.SameBut it s.heap h'->s.toks<=tk->Q (some x) { s with heap:=h',toks:=tk }):wpAny (model prog w) A (pyNext (.ref it)) Q E s:=by
 obtain ⟨o,ho,hc,hd⟩:=id hit
 have hi:i < items.size:=(Array.getElem?_eq_some_iff.mp hx).1
 unfold pyNext
 refine wpAny_bind (wpAny_attempt (wpAny_callSpecial?_slot (name:=Str.ofString "__next__") hit.typeIs jP
  (wpAny_call_entry jP hit.typeIs sI ?_ (tY _))))
 unfold Builtin.«reversed.__next__»
 refine wpAny_bind (wpAny_of_eq (a:=(Value.ref it,[])) rfl ?_)
 try dsimp only
 refine wpAny_bind (wpAny_field ho hd (x:=.ref t) rfl ?_)
 refine wpAny_bind (wpAny_field ho hd (x:=rawInt (i:Int)) rfl ?_)
 show wpAny _ _ (if (i:Int) < 0 then _ else _) _ _ s
 rw [if_neg (by omega)]
 show wpAny _ _ (specialOf (.ref t) (Str.ofString "__getitem__") >>= _) _ _ _
 refine wpAny_bind (wpAny_specialOf ht.typeIs slot_tuple_getitem.lookup ?_)
 rw [if_neg (by simp)]
 refine wpAny_bind (wpAny_mkInt ?_)
 refine wpAny_bind (wpAny_attempt (PyProof.Rows.getItem_tuple ht (by omega) (by omega) (j:=i) (x:=x) ?_ hx ?_))
 ·unfold seqIndex?;simp;omega
 dsimp only
 refine wpAny_bind (wpAny_field ho hd (x:=rawInt (i:Int)) rfl ?_)
 show wpAny _ _ (setField (.ref it) 1 (rawInt ((i:Int) - 1)) >>= _) _ _ _
 refine wpAny_bind (wpAny_setField ho hd (by simp) ?_)
 refine wpAny_pure ⟨x,rfl,wpAny_pure (hQ _ _ ?_ (Heap.SameBut.update ..) (Nat.le_succ _))⟩
 exact ⟨_,Heap.get?_update_self _ ho (Obj.isFreed_of_fields (Obj.data_mapFields hd _)),(Obj.cls_mapFields ..).trans hc,by
  rw [Obj.data_mapFields hd];simp⟩
theorem yW {it l:Addr} {Q:Option Value->Shared->Prop} (hh:A.handled=none) (hit:iQ s.heap it l (-1))
  (hQ:∀ h',Heap.ExtBut it s.heap h'->Q none { s with heap:=h' }):wpAny (model prog w) A (pyNext (.ref it)) Q E s:=by
 obtain ⟨o,ho,hc,hd⟩:=id hit
 unfold pyNext
 refine wpAny_bind (wpAny_attempt (wpAny_callSpecial?_slot (name:=Str.ofString "__next__") hit.typeIs jP
  (wpAny_call_entry jP hit.typeIs sI ?_ (tY _))))
 unfold Builtin.«reversed.__next__»
 refine wpAny_bind (wpAny_of_eq (a:=(Value.ref it,[])) rfl ?_)
 try dsimp only
 refine wpAny_bind (wpAny_field ho hd (x:=.ref l) rfl ?_)
 refine wpAny_bind (wpAny_field ho hd (x:=rawInt (-1)) rfl ?_)
 show wpAny _ _ (if (-1:Int) < 0 then _ else _) _ _ s
 rw [if_pos (by decide)]
 refine wpAny_bind (wpAny_rule ?_)
 refine wpAny_bind ?_
 show wpAny _ _ (setField (.ref it) 1 (rawInt (-1)) >>= _) _ _ _
 refine wpAny_bind (wpAny_setField ho hd (by simp) ?_)
 generalize hf1:(Obj.mapFields fun x=>x.setIfInBounds 1 (rawInt (-1)))=f1
 have vU:(f1 o).data=.fields #[.ref l,rawInt (-1)]:=by rw [<- hf1,Obj.data_mapFields hd];simp
 have ho2:=Heap.get?_update_self (h:=s.heap) (a:=it) f1 ho (Obj.isFreed_of_fields vU)
 refine wpAny_setField (s:={ s with heap:=s.heap.update it f1 }) ho2 vU (by simp) ?_
 generalize hf2:(Obj.mapFields fun x=>x.setIfInBounds 0 Value.none)=f2
 have hex:Heap.ExtBut it s.heap ((s.heap.update it f1).update it f2):=fun b o hb e=>(Heap.get?_update_other _ _ (Ne.symm hb)).trans ((Heap.get?_update_other _ _ (Ne.symm hb)).trans e)
 refine wpAny_bind ?_
 show wpAny _ _ (newExc (.type "StopIteration") [] >>= _) _ _ { s with heap:=(s.heap.update it f1).update it f2 }
 generalize (s.heap.update it f1).update it f2=h2 at hex
 refine wpAny_bind ?_
 simp only [newExc,newTuple]
 refine wpAny_bind (wpAny_newObj_type ?_ (by size_fits))
 refine wpAny_bind (m:=firstArgMember _ _) (wpAny_of_eq (a:=Value.none) (by first | rfl | (simp only [firstArgMember];rfl)) ?_)
 refine wpAny_newObj_type ?_ (by size_fits)
 simp only [raiseNew]
 refine wpAny_bind (wpAny_handled ?_)
 first | rw [show A.in1.handled=none from hh] | rw [hh]
 refine wpAny_bind (wpAny_pure (wpAny_throw ?_))
 refine wpAny_bind (wpAny_isInstance (T:="StopIteration") (b:=true) ⟨_,Heap.get?_push_size _ rfl,rfl⟩ isSubtype_stop ?_)
 exact wpAny_pure (hQ _ ((hex.push _).push _))
end
theorem GX {prog:Program} {w:World} {A:Around} (hh:A.handled=none) (I l:Addr) (hne:l≠I) (items:Array Value) (hz:(items.size:Int) < 2 ^ 63) :
  Walks prog w A I [I,l] [I] items.size (fun i v=>items[items.size - 1 - i]?=some v) (fun i h=>i<=items.size/\iQ h I l ((items.size:Int) - 1 - (i:Int))/\IsTup h l items) where
 sub:=fun b hb=>by simp at hb;simp [hb]
 frame:=fun _ _ _ x hk=>⟨x.1,x.2.1.at fun o e=>hk I (by simp) o e,let ⟨o,ho,r⟩:=x.2.2;⟨o,hk l (by simp) o ho,r⟩⟩
 item:=fun i s Q E hi x hQ=>by
  have e:(items.size:Int) - 1 - (i:Int)=((items.size - 1 - i:Nat):Int):=by omega
  have hit:=x.2.1
  rw [e] at hit
  have hx:items[items.size - 1 - i]?=some (items[items.size - 1 - i]'(by omega)):=Array.getElem?_eq_getElem (by omega)
  refine wZ hit x.2.2 hne hz hx fun h' tk hit' hs' _=>?_
  have e2:((items.size - 1 - i:Nat):Int) - 1=(items.size:Int) - 1 - ((i + 1:Nat):Int):=by omega
  rw [e2] at hit'
  exact hQ _ h' tk hx ⟨hi,hit',let ⟨o,ho,r⟩:=x.2.2;⟨o,(hs'.2 l hne).trans ho,r⟩⟩ fun b o hb eo=>hs'.extBut b o (fun h=>hb (by simp [h])) eo
 done:=fun s Q E x hQ=>by
  have e:(items.size:Int) - 1 - (items.size:Int)=-1:=by omega
  have hit:=x.2.1
  rw [e] at hit
  exact yW hh hit fun h' he'=>hQ h' s.toks fun b o hb eo=>he' b o (fun h=>hb (by simp [h])) eo
 self:=fun _ _ _ _ x hQ=>F9 x.2.1 hQ
section
variable {prog:Program} {w:World} {A:Around} {E:Value->Shared->Prop} {s:Shared}
theorem IL {it t:Addr} {items:Array Value} {Q:Value->Shared->Prop} (hit:iQ s.heap it t ((items.size:Int) - 1)) (ht:IsTup s.heap t items) (hz:(items.size:Int) < 2 ^ 63)
  (hQ:∀ tk u,s.toks<=tk->Q (.int items.size u) { s with toks:=tk }):wpAny (model prog w) A (call (.builtin "reversed.__length_hint__") [.ref it]) Q E s:=by
 obtain ⟨o,ho,hc,hd⟩:=id hit
 refine wpAny_call_entry oB hit.typeIs yT ?_ (Ay _)
 unfold Builtin.«reversed.__length_hint__»
 refine wpAny_bind (wpAny_of_eq (a:=Value.ref it) rfl ?_)
 refine wpAny_bind (wpAny_field ho hd (x:=.ref t) rfl ?_)
 rw [if_neg (show ¬ ((Value.ref t == Value.none)=true) from Bool.false_ne_true)]
 refine wpAny_bind (len_tuple ht hz ?_)
 refine wpAny_bind (m:=asInt? (.int items.size _)) (wpAny_pure ?_)
 dsimp only
 refine wpAny_bind (wpAny_field ho hd (x:=rawInt ((items.size:Int) - 1)) rfl ?_)
 show wpAny _ _ (if (items.size:Int) < (items.size:Int) - 1 + 1 then _ else _) _ _ _
 rw [if_neg (by omega)]
 refine wpAny_bind (wpAny_mkInt (wpAny_pure ⟨_,rfl,?_⟩))
 rw [show (items.size:Int) - 1 + 1=items.size by omega]
 exact hQ _ _ (by show s.toks<=s.toks + 1 + 1 + 1;omega)
end
theorem Fz {α β:Type} (f:α->Bool) (g:β->Bool):∀ (l:List α) (m:List β),l.length=m.length->(∀ (i:Nat) a b,l[i]?=some a->m[i]?=some b->f a=g b)->l.countP f=m.countP g
 | [],[],_,_=>rfl
 | [],_ :: _,h,_=>by cases h
 | _ :: _,[],h,_=>by cases h
 | a :: l,b :: m,h,k=>by
  rw [List.countP_cons,List.countP_cons,k 0 a b rfl rfl,Fz f g l m (by simpa using h) fun i a b h1 h2=>k (i + 1) a b h1 h2]
def u6:List U->Option (List Int)
 | []=>some []
 | .int b :: r=>(u6 r).map (b :: ·)
 | _=>none
theorem Hn {K:PySem.W.Frag} {H:Hp} {M:aF}:∀ {us:List U} {vs:List V} {bs:List Int},aI K H M us vs->u6 us=some bs->vs=bs.map V.int
 | [],_,_,r,h=>by cases h;exact r.inv_nil
 | u :: us,_,bs,r,h=>by
  obtain ⟨v,vs',rfl,a,b⟩:=r.inv_cons
  cases u with
  | int y =>
   simp only [u6] at h
   cases e:u6 us with
   | none=>rw [e] at h;cases h
   | some cs =>
    rw [e] at h
    cases h
    rw [Hn b e,a.int];rfl
  | _=>cases h
theorem Iu:∀ l:List Int,u6 (l.map U.int)=some l
 | []=>rfl
 | a :: l=>by simp only [List.map_cons,u6,Iu l,Option.map_some]
end U2
namespace U2
open PySem PySem.Spec PyProof.Rows L2
abbrev RU (h:Heap) (z TI TO T:Addr) (f:Bool):Prop :=
 h.get? z=some { cls:=.type "zip",dict:=none,data:=.fields #[rawInt T,.bool f,.bool false,.ref TI,.ref TO],slots:=#[] }
section
variable {prog:Program} {w:World} {A:Around} {E:Value->Shared->Prop} {s:Shared} {z TI TO i1 i2:Addr} {f1 f2:List Addr} {n1 n2:Nat} {P1 P2:Nat->Value->Prop} {S1 S2:Nat->Heap->Prop} {i:Nat} {a b:Value} {T:Addr} {f:Bool}
end
theorem FL:∀ us ws:List U,dP us ws=(us.zip ws).map fun z=>.tup [z.1,z.2]
 | [],ws=>by cases ws <;> rfl
 | _ :: _,[]=>rfl
 | u :: us,w :: ws=>by simp only [dP,List.zip_cons_cons,List.map_cons,FL us ws]
end U2
namespace U2
open PySem PySem.Spec PyProof.Rows L2
end U2
namespace L2
open PySem PySem.Spec PyProof.Rows
section
variable {κ:Type} [DecidableEq κ]
def mS (kvs:List (κ × V)) (k:κ):Option V:=(kvs.find? fun kv=>decide (kv.1=k)).map (·.2)
def putK (kvs:List (κ × V)) (k:κ) (v:V):List (κ × V) :=
 if (kvs.any fun kv=>decide (kv.1=k))=true then kvs.map (fun kv=>if kv.1=k then (kv.1,v) else kv) else kvs++[(k,v)]
def sM (kvs:List (κ × V)) (k:κ):List (κ × V):=kvs.filter fun kv=>decide (kv.1≠k)
theorem kA {p:κ × V} {r:List (κ × V)} {k:κ} (e:p.1=k):mS (p :: r) k=some p.2:=by simp [mS,List.find?_cons,e]
theorem kE {p:κ × V} {r:List (κ × V)} {k:κ} (e:¬ p.1=k):mS (p :: r) k=mS r k:=by simp [mS,List.find?_cons,e]
theorem wI (k:κ):∀ kvs:List (κ × V),(kvs.any fun kv=>decide (kv.1=k))=(mS kvs k).isSome
 | []=>rfl
 | p :: r=>by
  rw [List.any_cons]
  by_cases e:p.1=k
  ·simp only [kA e,decide_eq_true e,Bool.true_or,Option.isSome_some]
  ·rw [kE e,decide_eq_false e,Bool.false_or];exact wI k r
theorem Jx (k j:κ) (y:V):∀ kvs:List (κ × V),mS (kvs.map fun kv=>if kv.1=k then (kv.1,y) else kv) j=(mS kvs j).map fun x=>if j=k then y else x
 | []=>rfl
 | p :: r=>by
  have ih:=Jx k j y r
  rw [List.map_cons]
  by_cases h:p.1=k
  ·rw [if_pos h]
   by_cases e:p.1=j
   ·rw [kA (p:=(p.1,y)) e,kA e,Option.map_some,if_pos (e.symm.trans h)]
   ·rw [kE (p:=(p.1,y)) e,kE e,ih]
  ·rw [if_neg h]
   by_cases e:p.1=j
   ·rw [kA (p:=p) e,kA e,Option.map_some,if_neg (fun z=>h (e.trans z))]
   ·rw [kE (p:=p) e,kE e,ih]
theorem vT (kvs:List (κ × V)) (k:κ) (v:V):(putK kvs k v).length<=kvs.length + 1:=by
 unfold putK
 split
 ·rw [List.length_map];omega
 ·rw [List.length_append,List.length_cons,List.length_nil];omega
theorem Rq {kvs:List (κ × V)} {k:κ} (v:V) (h:mS kvs k=none):putK kvs k v=kvs++[(k,v)]:=by
 unfold putK
 rw [wI,h]
 exact if_neg (by decide)
theorem oG.isSome_eq {o:Option V} {u:Option Value} (r:oG o u):o.isSome=u.isSome:=by
 cases o with
 | none=>cases u with
  | none=>rfl
  | some _=>exact (show False from r).elim
 | some _=>cases u with
  | none=>exact (show False from r).elim
  | some _=>rfl
theorem KV.val {kvs:List (κ × V)} {vs:List (κ × Value)} (r:KV kvs vs) (k:κ):oG (mS kvs k) (valueAt vs k):=by
 unfold KV at r
 induction r with
 | nil=>exact True.intro
 | @cons p q ps qs h t ih =>
  obtain ⟨h1,h2⟩:=h
  by_cases e:p.1=k
  ·have e':q.1=k:=h1.symm.trans e
   have b:valueAt (q :: qs) k=some q.2:=by simp [valueAt,List.find?_cons,e']
   rw [kA e,b];exact h2
  ·have e':¬ q.1=k:=fun z=>e (h1.trans z)
   have b:valueAt (q :: qs) k=valueAt qs k:=by simp [valueAt,List.find?_cons,e']
   rw [kE e,b];exact ih
theorem KV.any {kvs:List (κ × V)} {vs:List (κ × Value)} (r:KV kvs vs) (k:κ):(kvs.any fun kv=>decide (kv.1=k))=vs.any fun kv=>decide (kv.1=k):=by
 unfold KV at r
 induction r with
 | nil=>rfl
 | cons h t ih=>rw [List.any_cons,List.any_cons,ih,h.1]
theorem KV.repl {kvs:List (κ × V)} {vs:List (κ × Value)} (r:KV kvs vs) (k:κ) {y:V} {u:Value} (ry:RelV y u) :
  KV (kvs.map fun kv=>if kv.1=k then (kv.1,y) else kv) (vs.map fun kv=>if kv.1=k then (kv.1,u) else kv):=by
 unfold KV at r ⊢
 induction r with
 | nil=>exact .nil
 | @cons p q ps qs h t ih =>
  rw [List.map_cons,List.map_cons]
  refine .cons ?_ ih
  obtain ⟨h1,h2⟩:=h
  by_cases e:p.1=k
  ·rw [if_pos e,if_pos (h1.symm.trans e)];exact ⟨h1,ry⟩
  ·rw [if_neg e,if_neg (fun z=>e (h1.trans z))];exact ⟨h1,h2⟩
theorem KV.put {kvs:List (κ × V)} {vs:List (κ × Value)} (r:KV kvs vs) (k:κ) {y:V} {u:Value} (ry:RelV y u):KV (putK kvs k y) (stored vs k u):=by
 unfold putK stored
 rw [r.any k]
 by_cases e:(vs.any fun kv=>decide (kv.1=k))=true
 ·rw [if_pos e,if_pos e];exact r.repl k ry
 ·rw [if_neg e,if_neg e];exact Paired.snoc r ⟨rfl,ry⟩
theorem KV.length {kvs:List (κ × V)} {vs:List (κ × Value)} (r:KV kvs vs):kvs.length=vs.length:=Paired.length r
end
theorem AJ {P:Program} {w:World} {k:Key} {u:Value} (r:RelV (kV k) u):(dJ P w).is k u=true:=by
 cases k with
 | inl i=>obtain ⟨t,e⟩:=(show ∃ t,u=Value.int i t from r);subst e;exact CK P w i t
 | inr x=>obtain ⟨t,e⟩:=(show ∃ t,u=Value.str x t from r);subst e;exact CY P w x t
theorem NF {a b:Key} (e:kV a=kV b):a=b:=by
 cases a with
 | inl i=>cases b with
  | inl j=>have e':V.int i=V.int j:=e;injection e' with e';rw [e']
  | inr y=>exact nomatch (show V.int i=V.str y from e)
 | inr x=>cases b with
  | inl j=>exact nomatch (show V.str x=V.int j from e)
  | inr y=>have e':V.str x=V.str y:=e;injection e' with e';rw [e']
theorem MT:∀ {a b:List Key},a.map kV=b.map kV->a=b
 | [],[],_=>rfl
 | [],_ :: _,e=>by simp at e
 | _ :: _,[],e=>by simp at e
 | x :: xs,y :: ys,e=>by
  rw [List.map_cons,List.map_cons] at e
  injection e with e1 e2
  rw [NF e1,MT e2]
theorem zT {P:Program} {w:World}:∀ {ks:List Key} {us:List Value},Vals (ks.map kV) us->ItemsAre (dJ P w) ks us
 | [],_,r=>by rw [List.map_nil] at r;cases r;exact .nil
 | k :: ks,_,r=>by
  rw [List.map_cons] at r
  cases r with
  | cons h t=>exact .cons (AJ h) (zT t)
abbrev qJ (H:Hp):List (List Key × V)->List (List Key × Addr × Value)->Prop:=Paired fun p q=>p.1=q.1/\H q.2.1=some (.tup (p.1.map kV))/\RelV p.2 q.2.2
theorem qJ.val {H:Hp} {kvs:List (List Key × V)} {xs:List (List Key × Addr × Value)} (r:qJ H kvs xs) (k:List Key):oG (mS kvs k) ((atKey xs k).map (·.2)):=by
 induction r with
 | nil=>exact True.intro
 | @cons p q ps qs h t ih =>
  obtain ⟨h1,_,h2⟩:=h
  by_cases e:p.1=k
  ·have e':q.1=k:=h1.symm.trans e
   have b:atKey (q :: qs) k=some q.2:=by simp [atKey,List.find?_cons,e']
   rw [kA e,b];exact h2
  ·have e':¬ q.1=k:=fun z=>e (h1.trans z)
   have b:atKey (q :: qs) k=atKey qs k:=by simp [atKey,List.find?_cons,e']
   rw [kE e,b];exact ih
theorem qJ.repl {H:Hp} {kvs:List (List Key × V)} {xs:List (List Key × Addr × Value)} (r:qJ H kvs xs) (k:List Key) {y:V} {u:Value} (ry:RelV y u) :
  qJ H (kvs.map fun kv=>if kv.1=k then (kv.1,y) else kv) (xs.map (putAt k u)):=by
 induction r with
 | nil=>exact .nil
 | @cons p q ps qs h t ih =>
  rw [List.map_cons,List.map_cons]
  refine .cons ?_ ih
  obtain ⟨h1,h2,h3⟩:=h
  unfold putAt
  by_cases e:p.1=k
  ·rw [if_pos e,if_pos (h1.symm.trans e)];exact ⟨h1,h2,ry⟩
  ·rw [if_neg e,if_neg (fun z=>e (h1.trans z))];exact ⟨h1,h2,h3⟩
theorem qJ.put {H:Hp} {kvs:List (List Key × V)} {xs:List (List Key × Addr × Value)} (r:qJ H kvs xs) (k:List Key) {b:Addr} {y:V} {u:Value} (hb:H b=some (.tup (k.map kV))) (ry:RelV y u) :
  qJ H (putK kvs k y) (storedH xs k b u):=by
 have e:(kvs.any fun kv=>decide (kv.1=k))=(atKey xs k).isSome:=by
  rw [wI,(r.val k).isSome_eq,Option.isSome_map]
 unfold putK storedH
 rw [e]
 by_cases q:(atKey xs k).isSome=true
 ·rw [if_pos q,if_pos q];exact r.repl k ry
 ·rw [if_neg q,if_neg q];exact Paired.snoc r ⟨rfl,hb,ry⟩
theorem qJ.keeps {H H':Hp} {kvs:List (List Key × V)} {xs:List (List Key × Addr × Value)} (r:qJ H kvs xs) (ht:∀ b ys,H b=some (.tup ys)->H' b=some (.tup ys)):qJ H' kvs xs :=
 Paired.mapP r fun _ _ z=>⟨z.1,ht _ _ z.2.1,z.2.2⟩
section
variable {P:Program} {w:World} {H:Hp} {h:Heap} {a:Addr}
theorem K6 {u:HO} (ok:gJ P w H h) (e:Rd H a u):bR P w H h a u:=e.ok ok
theorem AF {kvs:List (Key × V)} (ok:gJ P w H h) (e:Rd H a (.dK kvs)):kvs.length<=sizeLine/\(a == sysModules)=false/\∃ vs,KV kvs vs/\h.DictOf (dJ P w) a vs :=
 show bR P w H h a (.dK kvs) from K6 ok e
theorem Qu {kvs:List (Key × V)} (ok:gJ P w H h) (e:H a=some (.dK kvs)):kvs.length<=sizeLine/\(a == sysModules)=false/\∃ vs,KV kvs vs/\h.DictOf (dJ P w) a vs:=AF ok (.inl e)
theorem wU {ks:List Key} (ok:gJ P w H h) (e:H a=some (.tup (ks.map kV))):(tupleKind (dJ P w)).is h ks a:=by
 obtain ⟨_,its,r,o,h1,h2,_,n,h3⟩:=(show bR P w H h a (.tup (ks.map kV)) from ok a _ e)
 exact ⟨o,its.toArray,n,h1,h2,h3,by simpa using zT r⟩
theorem AL {kvs:List (List Key × V)} (ok:gJ P w H h) (e:Rd H a (.dT kvs)):kvs.length<=sizeLine/\(a == sysModules)=false /\
  ∃ xs,qJ H kvs xs/\h.DictOfH (tupleKind (dJ P w)) a xs:=by
 obtain ⟨z,y,xs,r,o,es,ep,h1,h2,h3,h4,h5⟩:=(show bR P w H h a (.dT kvs) from K6 ok e)
 refine ⟨z,y,xs,r,o,es,ep,h1,h2,h3,h4,fun x hx=>?_,h5⟩
 have all:∀ {l:List (List Key × V)} {m:List (List Key × Addr × Value)},qJ H l m->∀ x∈m,(tupleKind (dJ P w)).is h x.1 x.2.1:=by
  intro l m q
  induction q with
  | nil=>intro x hx;exact nomatch hx
  | @cons p q ps qs hq t ih =>
   intro x hx
   rcases List.mem_cons.mp hx with e | hx
   ·subst e
    exact wU ok (by rw [<- hq.1];exact hq.2.1)
   ·exact ih x hx
 exact all r x hx
theorem Qx {kvs:List (List Key × V)} (ok:gJ P w H h) (e:H a=some (.dT kvs)):kvs.length<=sizeLine/\(a == sysModules)=false /\
  ∃ xs,qJ H kvs xs/\h.DictOfH (tupleKind (dJ P w)) a xs:=AL ok (.inl e)
end
def wB (H:Hp) (a:Addr) (y:V) (r:Option V):Prop :=
 (∃ kvs k,Rd H a (.dK kvs)/\y=kV k/\r=mS kvs k)\/∃ kvs k b,Rd H a (.dT kvs)/\y=.ref b/\H b=some (.tup (k.map kV))/\r=mS kvs k
def zD (H:Hp) (a:Addr) (y v:V) (H':Hp):Prop :=
 (∃ kvs k,H a=some (.dK kvs)/\y=kV k/\kvs.length < sizeLine/\H'=upd H a (.dK (putK kvs k v))) \/
 ∃ kvs k b,H a=some (.dT kvs)/\y=.ref b/\H b=some (.tup (k.map kV))/\kvs.length < sizeLine/\H'=upd H a (.dT (putK kvs k v))
theorem zD.k {H:Hp} {a:Addr} {kvs:List (Key × V)} {k:Key} {v:V} (e:H a=some (.dK kvs)) (hl:kvs.length < sizeLine):zD H a (kV k) v (upd H a (.dK (putK kvs k v))):=.inl ⟨kvs,k,e,rfl,hl,rfl⟩
theorem zD.t {H:Hp} {a b:Addr} {kvs:List (List Key × V)} {k:List Key} {v:V} (e:H a=some (.dT kvs)) (eb:H b=some (.tup (k.map kV))) (hl:kvs.length < sizeLine) :
  zD H a (.ref b) v (upd H a (.dT (putK kvs k v))):=.inr ⟨kvs,k,b,e,rfl,eb,hl,rfl⟩
section
variable {X:Cx} {pins:List (Addr × Obj)} {σ:St} {H:Hp} {s:Shared} {a:Addr} {y v:V} {u r:Value} {o:Option V} {A:Around} {E:Value->Shared->Prop}
theorem Inv.big (I:Inv X pins σ H s):sysModules < s.heap.objs.size:=by
 have h:mainGlobals < s.heap.objs.size:=(I.mod.glob.keeps I.bk).lt
 exact Nat.lt_trans (by decide) h
theorem G5 {Q:Value->Shared->Prop} (hu:A.units + 1 < cLine) (I:Inv X pins σ H s) (g:wB H a y (some v)) (ry:RelV y u) (h:∀ w' s',Inv X pins σ H s'->RelV v w'->Q w' s') :
  wpAny (model X.prog X.w) A (getItem (.ref a) u) Q E s:=by
 rcases g with ⟨kvs,k,e,ey,l⟩ | ⟨kvs,k,b,e,ey,eb,l⟩
 ·subst ey
  obtain ⟨z,hd,vs,rel,dd⟩:=AF I.hok e
  obtain ⟨w',hw,rw'⟩:=oG.some_of (v:=v) (o:=valueAt vs k) (by rw [l];exact rel.val k)
  exact wpAny_getItem_of (AJ ry) dd.mapOf hw (h w' _ (I.tok _) rw')
 ·subst ey
  cases (show u=Value.ref b from ry)
  obtain ⟨z,hd,xs,rel,dd⟩:=AL I.hok e
  obtain ⟨w',hw,rw'⟩:=oG.some_of (v:=v) (o:=(atKey xs k).map (·.2)) (by rw [l];exact rel.val k)
  obtain ⟨p,hp,hp2⟩:=Option.map_eq_some_iff.mp hw
  refine wpAny_getItem_heap (tupleKind_room_in1 hu) (wU I.hok eb) dd hp ?_
  rw [hp2]
  exact h w' _ (I.tok _) rw'
theorem Na {Q:Value->Shared->Prop} (hu:A.units + 1 < cLine) (I:Inv X pins σ H s) (g:wB H a y o) (ry:RelV y u) (h:∀ s',Inv X pins σ H s'->Q (.bool (!o.isSome)) s') :
  wpAny (model X.prog X.w) A (compareOp .NotIn u (.ref a)) Q E s:=by
 rcases g with ⟨kvs,k,e,ey,l⟩ | ⟨kvs,k,b,e,ey,eb,l⟩
 ·subst ey
  obtain ⟨z,hd,vs,rel,dd⟩:=AF I.hok e
  refine wpAny_notIn_of (AJ ry) hd dd.mapOf ?_
  rw [<- (rel.val k).isSome_eq,<- l]
  exact h _ (I.tok _)
 ·subst ey
  cases (show u=Value.ref b from ry)
  obtain ⟨z,hd,xs,rel,dd⟩:=AL I.hok e
  refine wpAny_notIn_heap (tupleKind_room_in1 hu) (wU I.hok eb) hd dd ?_
  have q:=(rel.val k).isSome_eq
  rw [Option.isSome_map] at q
  rw [<- q,<- l]
  exact h _ (I.tok _)
theorem DD {h':Heap} {t':Nat} {ob:HO} (I:Inv X pins σ H s) (mu:HK (H a)) (hs:Heap.SameBut a s.heap h') (he:∃ q,h'.get? a=some q) (new:bR X.prog X.w (upd H a ob) h' a ob) :
  Inv X pins σ (upd H a ob) { s with heap:=h',toks:=t' } :=
 I.write (x:=a) (e:=a) mu (.inl rfl) (fun b q hb z=>(hs.2 b hb).trans z) he new
theorem NJ {P:Program} {w:World} {H':Hp} {h':Heap} {kvs:List (Key × V)} {vs:List (Key × Value)} (z:kvs.length<=sizeLine) (hd:(a == sysModules)=false) (rel:KV kvs vs) (dd:h'.DictOf (dJ P w) a vs) :
  bR P w H' h' a (.dK kvs):=⟨z,hd,vs,rel,dd⟩
theorem Hd {H':Hp} {Q:Unit->Shared->Prop} (hu:A.units + 1 < cLine) (I:Inv X pins σ H s) (g:zD H a y v H') (ry:RelV y u) (rv:RelV v r) (h:∀ s',Inv X pins σ H' s'->Q () s') :
  wpAny (model X.prog X.w) A (setItem (.ref a) u r) Q E s:=by
 rcases g with ⟨kvs,k,e,ey,l,eH⟩ | ⟨kvs,k,b,e,ey,eb,l,eH⟩
 ·subst ey eH
  obtain ⟨z,hd,vs,rel,dd⟩:=Qu I.hok e
  have hz:vs.length<=sizeLine:=by rw [<- rel.length];exact z
  have hl:(putK kvs k v).length<=sizeLine:=by have:=vT kvs k v;omega
  refine wpAny_setItem_pairs (hsz:=hz) (AJ ry) dd fun h' dd' hs=>h _ ?_
  have he:∃ q,h'.get? a=some q:=let ⟨q,_,_,hq,_⟩:=dd';⟨q,hq⟩
  exact DD I (by rw [e];exact True.intro) hs he (NJ hl hd (rel.put k rv) dd')
 ·subst ey eH
  cases (show u=Value.ref b from ry)
  obtain ⟨z,hd,xs,rel,dd⟩:=Qx I.hok e
  have hz:xs.length<=sizeLine:=by rw [<- Paired.length rel];exact z
  have hl:(putK kvs k v).length<=sizeLine:=by have:=vT kvs k v;omega
  refine wpAny_setItem_heap (hsz:=hz) (tupleKind_room_in1 hu) (wU I.hok eb) dd fun h' dd' hs=>h _ ?_
  obtain ⟨q,es,ep,hq,h2,h3,h4,_,h5⟩:=dd'
  refine DD I (by rw [e];exact True.intro) hs ⟨q,hq⟩ ⟨hl,hd,_,(rel.put k eb rv).keeps fun c ys ec=>?_,q,es,ep,hq,h2,h3,h4,h5⟩
  rw [bL (QP ec e (fun z=>nomatch z))]
  exact ec
end
section
variable {X:Cx} {pins:List (Addr × Obj)} {σ:St} {H:Hp} {s:Shared} {a:Addr} {kvs:List (Key × V)} {k:Key} {u:Value} {A:Around} {E:Value->Shared->Prop}
end
def Ka (i:Expr):Prop:=∀ ov iv,subscripted i false ov iv=operate [ov,iv] (getItem ov iv)
theorem Ma {prog:Program} {w:World} {A:Around} {E:Value->Shared->Prop} {s:Shared} {env:Env} {value slice:Expr} {pos:Pos} {T id:String} {Q:Value->Shared->Prop}
  (hl:typeLookup (.type T) "__getitem__"=pure (some (.builtin id))) (hs:Ka slice)
  (h:wpAny (model prog w) A (eval value env) (fun o s₁=>wpAny (model prog w) A (eval slice env) (fun i s₂=>s₂.TypeIs o T/\wpAny (model prog w) A (getItem o i) Q E s₂) E s₁) E s) :
  wpAny (model prog w) A (eval (.Subscript value slice pos) env) Q E s:=by
 refine Subscript_ (wpAny_mono h (fun o s₁ h₁=>wpAny_mono h₁ (fun i s₂ h₂=>?_) fun _ _ x=>x) fun _ _ x=>x)
 obtain ⟨hT,h₂⟩:=h₂
 unfold subscriptTail
 refine wpAny_bind ?_
 rw [getitemInPython_of_ne hT.not_modules]
 refine wpAny_bind (wpAny_specialOf hT hl ?_)
 have fin:wpAny (model prog w) A (subscripted slice false o i) (fun r s₃=>wpAny (model prog w) A (letTemporaryGo value o r >>= fun _=>pure r) Q E s₃) E s₂:=by
  rw [hs o i]
  exact wpAny_operating (wpAny_mono h₂ (fun r s₃ h₃=>wpAny_bind (wpAny_letTemporaryGo (wpAny_pure h₃))) fun _ _ x=>x)
 first
  | exact wpAny_pure (wpAny_bind fin)
  | exact wpAny_bind (wpAny_pure (wpAny_bind fin))
  | exact wpAny_bind fin
theorem CP {X:Cx} {pins:List (Addr × Obj)} {σ:St} {H:Hp} {s:Shared} {a:Addr} {y:V} {o:Option V} (I:Inv X pins σ H s) (g:wB H a y o):s.TypeIs (.ref a) "dict":=by
 rcases g with ⟨kvs,k,e,_,_⟩ | ⟨kvs,k,b,e,_,_,_⟩
 ·obtain ⟨_,_,vs,_,dd⟩:=AF I.hok e
  exact dd.typeIs
 ·obtain ⟨_,_,xs,_,dd⟩:=AL I.hok e
  exact dd.typeIs
def QS (td ty:TE):TE:=fun σ H Q=>td σ H fun x H1=>ty σ H1 fun y H2=>∃ a v,x=.ref a/\wB H2 a y (some v)/\Q v H2
def Qr (td ty tv:TE):TS:=fun D σ H=>tv σ H fun v H1=>td σ H1 fun x H2=>ty σ H2 fun y H3=>∃ a H4,x=.ref a/\zD H3 a y v H4/\D.nx σ H4
section
variable {X:Cx} {o i e value:Expr} {pos pos' tpos:Pos} {td ty tv:TE}
theorem L6 (hu:X.A.units + 1 < cLine) (ho:PE X o td) (hi:PE X i ty) (hs:Ka i):PE X (.Subscript o i pos) (QS td ty):=by
 intro pins s σ H Q I h
 refine Ma PySem.F.slot_dict_getitem.lookup hs (bG (ho pins s σ H _ I h) fun u s1 ⟨x,H1,I1,rx,q1⟩=>bG (hi pins s1 σ H1 _ I1 q1) fun iv s2 ⟨y,H2,I2,ry,a,v,ex,g,q2⟩=>?_)
 subst ex
 obtain rfl:u=Value.ref a:=rx
 exact ⟨CP I2 g,G5 hu I2 g ry fun w' s3 I3 rw'=>⟨v,H2,I3,rw',q2⟩⟩
theorem MM (hu:X.A.units + 1 < cLine) (ho:PE X o td) (hi:PE X i ty) (hv:PE X value tv) (hs:swapsWith value (some (.Subscript o i pos')) pos.line X.env=pure false) :
  PS X (.Assign [.Subscript o i pos'] value pos) (Qr td ty tv):=by
 intro pins s σ H D I h
 refine wpAny_Assign_Subscript (bG (hv pins s σ H _ I h) fun r s1 ⟨v,H1,I1,rv,q1⟩=>bG (ho pins s1 σ H1 _ I1 q1) fun u s2 ⟨x,H2,I2,rx,q2⟩=>bG (hi pins s2 σ H2 _ I2 q2) fun iv s3 ⟨y,H3,I3,ry,a,H4,ex,g,q3⟩=>?_) hs
 subst ex
 obtain rfl:u=Value.ref a:=rx
 exact Hd hu I3 g ry rv fun s4 I4=>⟨σ,H4,I4,q3⟩
end
theorem JB {P:Program} {w:World} {H:Hp} (h:Heap) (hb:sysModules < h.objs.size):bR P w H (h.push { cls:=.type "dict",data:=.dict #[] }) h.objs.size (.dK []) :=
 ⟨Nat.zero_le _,beq_eq_false_iff_ne.mpr (Ne.symm (Nat.ne_of_lt hb)),[],.nil,Heap.DictOf.new h⟩
theorem Kz {P:Program} {w:World} {H:Hp} (h:Heap) (hb:sysModules < h.objs.size):bR P w H (h.push { cls:=.type "dict",data:=.dict #[] }) h.objs.size (.dT []) :=
 ⟨Nat.zero_le _,beq_eq_false_iff_ne.mpr (Ne.symm (Nat.ne_of_lt hb)),[],.nil,_,#[],0,Heap.get?_push_size _ rfl,⟨rfl,rfl,rfl⟩,rfl,rfl,List.nodup_nil⟩
def HM:TE:=fun _ H Q=>∀ p,H p=none->Q (.ref p) (upd H p (.dK []))
def Iq:TE:=fun _ H Q=>∀ p,H p=none->Q (.ref p) (upd H p (.dT []))
section
variable {X:Cx} {pos:Pos}
theorem Ke:PE X (.Dict [] [] pos) HM:=fun pins s σ H Q I h =>
 wpAny_Dict_empty ⟨.ref s.heap.objs.size,_,I.laid (a:=s.heap.objs.size) (o:=.dK []) (t':=s.toks) (fun _ _ q=>Heap.get?_push_of_some _ q) (Nat.le_refl _) (JB s.heap I.big),rfl,h _ (I.hok.fresh (Nat.le_refl _))⟩
theorem KW:PE X (.Dict [] [] pos) Iq:=fun pins s σ H Q I h =>
 wpAny_Dict_empty ⟨.ref s.heap.objs.size,_,I.laid (a:=s.heap.objs.size) (o:=.dT []) (t':=s.toks) (fun _ _ q=>Heap.get?_push_of_some _ q) (Nat.le_refl _) (Kz s.heap I.big),rfl,h _ (I.hok.fresh (Nat.le_refl _))⟩
end
abbrev VV:List (V × V)->List (Value × Value)->Prop:=Paired fun p q=>RelV p.1 q.1/\RelV p.2 q.2
section
variable {X:Cx} {pins:List (Addr × Obj)} {σ:St} {H:Hp} {s:Shared} {a:Addr} {y d:V} {u r:Value} {o:Option V} {A:Around} {E:Value->Shared->Prop}
end
section
variable {X:Cx} {o e f:Expr} {apos cpos:Pos} {td ty tx:TE}
end
section
variable {X:Cx} {pins:List (Addr × Obj)} {σ:St} {H:Hp} {s:Shared} {a:Addr} {kvs:List (Key × V)} {A:Around} {E:Value->Shared->Prop}
end
section
variable {X:Cx} {pins:List (Addr × Obj)} {σ:St} {H:Hp} {s:Shared} {a:Addr} {y:V} {u:Value} {A:Around} {E:Value->Shared->Prop}
end
section
variable {X:Cx}
end
section
variable {κ:Type} [DecidableEq κ]
theorem QU {p:κ × V} {r:List (κ × V)} {k:κ} (e:p.1=k):sM (p :: r) k=sM r k:=by
 unfold sM
 rw [List.filter_cons,if_neg (by simp [e])]
theorem Hy {p:κ × V} {r:List (κ × V)} {k:κ} (e:¬ p.1=k):sM (p :: r) k=p :: sM r k:=by
 unfold sM
 rw [List.filter_cons,if_pos (by simp [e])]
theorem KJ:∀ {kvs:List (κ × V)} {k:κ},¬ k∈kvs.map (·.1)->sM kvs k=kvs
 | [],_,_=>rfl
 | p :: r,k,h=>by
  have h':¬ k∈r.map (·.1):=fun m=>by
   obtain ⟨q,hq,e⟩:=List.mem_map.mp m
   exact h (List.mem_map.mpr ⟨q,List.mem_cons.mpr (Or.inr hq),e⟩)
  rw [Hy fun e=>h (List.mem_map.mpr ⟨p,List.mem_cons.mpr (Or.inl rfl),e⟩),KJ h']
end
end L2
namespace U2
open PySem PySem.Spec PyProof.Rows L2
def qR (_:PySem.W.Frag):Prop:=True
def sS:U->Option Key
 | .int i=>some (.inl i)
 | .str x=>some (.inr x)
 | _=>none
def n5:List U->Option (List Key)
 | []=>some []
 | u :: us=>match sS u,n5 us with
  | some k,some ks=>some (k :: ks)
  | _,_=>none
def kU:Key->U
 | .inl i=>.int i
 | .inr x=>.str x
theorem Mj (k:Key):sS (kU k)=some k:=by cases k <;> rfl
theorem JI:∀ ks:List Key,n5 (ks.map kU)=some ks
 | []=>rfl
 | k :: ks=>by simp only [List.map_cons,n5,Mj,JI ks]
theorem wF {K:PySem.W.Frag} {H:Hp} {M:aF} {u:U} {v:V} {k:Key} (r:aJ K H M u v) (e:sS u=some k):v=kV k:=by
 cases u with
 | int i=>cases e;exact r.int
 | str x=>cases e;exact r.str
 | _=>cases e
theorem zV {K:PySem.W.Frag} {H:Hp} {M:aF}:∀ {us:List U} {vs:List V} {ks:List Key},aI K H M us vs->n5 us=some ks->vs=ks.map kV
 | [],_,_,r,e=>by cases e;exact r.inv_nil
 | u :: us,_,ks,r,e=>by
  obtain ⟨v,vs',rfl,a,b⟩:=r.inv_cons
  simp only [n5] at e
  cases e1:sS u with
  | none=>rw [e1] at e;cases e
  | some k =>
   cases e2:n5 us with
   | none=>rw [e1,e2] at e;cases e
   | some ks' =>
    rw [e1,e2] at e;cases e
    rw [wF a e1,zV b e2];rfl
section
variable {κ:Type} [DecidableEq κ]
def pP (kvs:List (κ × U)) (k:κ):Option U:=(kvs.find? fun kv=>decide (kv.1=k)).map (·.2)
def uX (kvs:List (κ × U)) (k:κ) (u:U):List (κ × U) :=
 if (kvs.any fun kv=>decide (kv.1=k))=true then kvs.map (fun kv=>if kv.1=k then (kv.1,u) else kv) else kvs++[(k,u)]
theorem BE {p:κ × U} {r:List (κ × U)} {k:κ} (e:p.1=k):pP (p :: r) k=some p.2:=by simp [pP,List.find?_cons,e]
theorem AS {p:κ × U} {r:List (κ × U)} {k:κ} (e:¬ p.1=k):pP (p :: r) k=pP r k:=by simp [pP,List.find?_cons,e]
theorem JH (k:κ):∀ kvs:List (κ × U),(kvs.any fun kv=>decide (kv.1=k))=(pP kvs k).isSome
 | []=>rfl
 | p :: r=>by
  rw [List.any_cons]
  by_cases e:p.1=k
  ·simp only [BE e,decide_eq_true e,Bool.true_or,Option.isSome_some]
  ·rw [AS e,decide_eq_false e,Bool.false_or];exact JH k r
variable {K:PySem.W.Frag} {H:Hp} {M:aF}
theorem cP.any {kvs:List (κ × U)} {ws:List (κ × V)} (r:cP K H M kvs ws) (k:κ):(kvs.any fun kv=>decide (kv.1=k))=ws.any fun kv=>decide (kv.1=k):=by
 unfold cP at r
 induction r with
 | nil=>rfl
 | cons h t ih=>rw [List.any_cons,List.any_cons,ih,h.1]
def AG (K:PySem.W.Frag) (H:Hp) (M:aF):Option U->Option V->Prop
 | none,none=>True
 | some u,some v=>aJ K H M u v
 | _,_=>False
theorem cP.val {kvs:List (κ × U)} {ws:List (κ × V)} (r:cP K H M kvs ws) (k:κ):AG K H M (pP kvs k) (mS ws k):=by
 unfold cP at r
 induction r with
 | nil=>exact True.intro
 | @cons p q ps qs h t ih =>
  obtain ⟨h1,h2⟩:=h
  by_cases e:p.1=k
  ·rw [BE e,kA (h1.symm.trans e)];exact h2
  ·rw [AS e,kE (fun z=>e (h1.trans z))];exact ih
theorem cP.repl {kvs:List (κ × U)} {ws:List (κ × V)} (r:cP K H M kvs ws) (k:κ) {u:U} {v:V} (ru:aJ K H M u v):cP K H M (kvs.map fun kv=>if kv.1=k then (kv.1,u) else kv) (ws.map fun kv=>if kv.1=k then (kv.1,v) else kv):=by
 unfold cP at r ⊢
 induction r with
 | nil=>exact .nil
 | @cons p q ps qs h t ih =>
  rw [List.map_cons,List.map_cons]
  refine .cons ?_ ih
  obtain ⟨h1,h2⟩:=h
  by_cases e:p.1=k
  ·rw [if_pos e,if_pos (h1.symm.trans e)];exact ⟨h1,ru⟩
  ·rw [if_neg e,if_neg (fun z=>e (h1.trans z))];exact ⟨h1,h2⟩
theorem cP.put {kvs:List (κ × U)} {ws:List (κ × V)} (r:cP K H M kvs ws) (k:κ) {u:U} {v:V} (ru:aJ K H M u v):cP K H M (uX kvs k u) (putK ws k v):=by
 unfold uX putK
 rw [r.any k]
 split
 ·exact r.repl k ru
 ·exact Paired.snoc r ⟨rfl,ru⟩
theorem cP.length {kvs:List (κ × U)} {ws:List (κ × V)} (r:cP K H M kvs ws):kvs.length=ws.length:=Paired.length r
theorem A1:∀ {ws:List (κ × V)} {us:List U},aI K H M us (ws.map (·.2))->cP K H M ((ws.map (·.1)).zip us) ws
 | [],us,r=>by
  have:=r.length
  cases us with
  | nil=>exact .nil
  | cons _ _=>simp at this
 | w :: ws,us,r=>by
  cases us with
  | nil=>have:=r.length;simp at this
  | cons u us =>
   obtain ⟨v,vs',e,a,b⟩:=r.inv_cons
   rw [List.map_cons] at e
   cases e
   exact .cons ⟨rfl,a⟩ (A1 b)
end
def vU:List Key->Key
 | [k]=>k
 | _=>.inl 0
def yA (M:aF):U->Option MO
 | .ref a=>M a
 | .dic ks true us=>some (.dT (ks.zip us))
 | .dic ks false us=>some (.dK ((ks.map vU).zip us))
 | _=>none
section
variable {K:PySem.W.Frag} {H:Hp} {M:aF} {x y:U} {v u:V}
theorem QC {kvs:List (Key × U)} (rm:RelM K H M) (r:aJ K H M x v) (e:yA M x=some (.dK kvs)):∃ a ws,v=.ref a/\Rd H a (.dK ws)/\cP K H M kvs ws:=by
 cases x with
 | ref a=>obtain ⟨ws,h1,h2⟩:=rm a _ e;exact ⟨a,ws,r.ref,.inl h1,h2⟩
 | dic ks tk us =>
  cases tk with
  | true=>cases e
  | false =>
   simp only [yA] at e
   cases e
   simp only [aJ] at r
   obtain ⟨a,vs,rfl,m,⟨ws,h1,rfl,rfl⟩,ru⟩:=r
   refine ⟨a,ws,rfl,h1,?_⟩
   have e1:(ws.map (fun p=>[p.1])).map vU=ws.map (·.1):=by rw [List.map_map];rfl
   rw [e1];exact A1 ru
 | _=>cases e
theorem QO {kvs:List (List Key × U)} (rm:RelM K H M) (r:aJ K H M x v) (e:yA M x=some (.dT kvs)):∃ a ws,v=.ref a/\Rd H a (.dT ws)/\cP K H M kvs ws:=by
 cases x with
 | ref a=>obtain ⟨ws,h1,h2⟩:=rm a _ e;exact ⟨a,ws,r.ref,.inl h1,h2⟩
 | dic ks tk us =>
  cases tk with
  | false=>cases e
  | true =>
   simp only [yA] at e
   cases e
   simp only [aJ] at r
   obtain ⟨a,vs,rfl,m,⟨ws,h1,rfl,rfl⟩,ru⟩:=r
   exact ⟨a,ws,rfl,h1,A1 ru⟩
 | _=>cases e
theorem DY {ys:List U} {ks:List Key} (hk:qR K) (r:aJ K H M (.tup ys) u) (e:n5 ys=some ks):∃ b,u=.ref b/\H b=some (.tup (ks.map kV)):=by
 simp only [aJ] at r
 obtain ⟨b,vs,rfl,h,ru⟩:=r
 have:=zV ru e
 subst this
 exact ⟨b,rfl,h.2⟩
def o8 (tk:Bool) (M:aF) (x y:U):Option (Option U):=match tk with
 | false=>match yA M x,sS y with
  | some (.dK kvs),some k=>some (pP kvs k)
  | _,_=>none
 | true=>match yA M x,y with
  | some (.dT kvs),.tup ys=>(n5 ys).map (pP kvs)
  | _,_=>none
theorem zR {tk:Bool} {o:Option U} (hk:tk=true->qR K) (rm:RelM K H M) (rx:aJ K H M x v) (ry:aJ K H M y u) (e:o8 tk M x y=some o):∃ a ov,v=.ref a/\wB H a u ov/\AG K H M o ov:=by
 cases tk with
 | false =>
  simp only [o8] at e
  split at e
  ·rename_i kvs k e1 e2
   cases e
   obtain ⟨a,ws,rfl,h1,h2⟩:=QC rm rx e1
   have:=wF ry e2
   subst this
   exact ⟨a,_,rfl,.inl ⟨_,k,h1,rfl,rfl⟩,h2.val k⟩
  ·cases e
 | true =>
  simp only [o8] at e
  split at e
  ·rename_i kvs ys e1
   obtain ⟨a,ws,rfl,h1,h2⟩:=QO rm rx e1
   cases e3:n5 ys with
   | none=>rw [e3] at e;cases e
   | some ks =>
    rw [e3] at e;cases e
    obtain ⟨b,rfl,hb⟩:=DY (hk rfl) ry e3
    exact ⟨a,_,rfl,.inr ⟨_,ks,b,h1,rfl,hb,rfl⟩,h2.val ks⟩
  ·cases e
end
def xF (tk:Bool):eL:=fun x y M Q=>match o8 tk M x y with
 | some (some u)=>Q u M
 | _=>False
def Ld:R2:=fun x y H Q=>∃ a v,x=.ref a/\wB H a y (some v)/\Q v H
theorem Kk {K:PySem.W.Frag} {tk:Bool} (hk:tk=true->qR K):eP K Ld (xF tk):=fun x y u w H M Q' rm ru rw h Q c=>by
 unfold xF at h
 split at h
 ·rename_i z e
  obtain ⟨a,ov,rfl,g,r⟩:=zR hk rm ru rw e
  cases ov with
  | none=>exact r.elim
  | some v=>exact ⟨a,v,rfl,g,c.here rm r h⟩
 ·exact h.elim
section
variable {D:Dat} {a b c e o i:Expr} {ta tb tc te to ti:UE} {pos p:Pos} {es:List Expr} {tas:UA} {x:Str}
theorem AV {K:PySem.W.Frag}:false=true->qR K:=fun h=>by cases h
theorem Dp (tk:Bool) (hk:tk=true->qR D.K) (ha:aV D a ta) (hb:aV D b tb) (hs:Ka b:=by intro _ _;rfl):aV D (.Subscript a b pos) (fH (xF tk) ta tb):=by
 obtain ⟨_,p,s⟩:=ha;obtain ⟨_,q,r⟩:=hb
 exact ⟨Bx Ld _ _,fun X h=>L6 (Ei h.room) (p X h) (q X h) hs,rZ (Kk hk) s r⟩
def OC (neg:Bool):R2:=fun y x H Q=>∃ a o,x=.ref a/\wB H a y o/\Q (.bl (if neg then !o.isSome else o.isSome)) H
def Ed (tk neg:Bool):eL:=fun y x M Q=>match o8 tk M x y with
 | some o=>Q (.bl (if neg then !o.isSome else o.isSome)) M
 | none=>False
theorem AG.isSome_eq {K:PySem.W.Frag} {H:Hp} {M:aF} {o:Option U} {ov:Option V} (r:AG K H M o ov):o.isSome=ov.isSome:=by
 cases o <;> cases ov <;> first | rfl | exact r.elim
theorem Nm {K:PySem.W.Frag} {tk neg:Bool} (hk:tk=true->qR K):eP K (OC neg) (Ed tk neg):=fun x y u w H M Q' rm ru rw h Q c=>by
 unfold Ed at h
 split at h
 ·rename_i o e
  obtain ⟨a,ov,rfl,g,r⟩:=zR hk rm rw ru e
  refine ⟨a,ov,rfl,g,?_⟩
  rw [<- r.isSome_eq]
  exact c.here rm dD h
 ·exact h.elim
theorem Ia {X:Cx} {k:Nat} (hr:fT k X.A):dG X (compareOp .NotIn) (OC true):=by
 intro pins s σ H x y v u Q I rx ry h
 obtain ⟨a,o,rfl,g,q⟩:=h
 cases ry
 exact Na (Ei hr) I g rx fun s' I'=>⟨.bl (!o.isSome),H,I',rfl,q⟩
theorem Cc (tk:Bool) (hk:tk=true->qR D.K):mY D .NotIn (Ed tk true):=⟨⟨_,fun X h=>Ia h.room,Nm hk⟩⟩
def Ph (tk:Bool):MO:=if tk then .dT [] else .dK []
def EK (tk:Bool):UE:=fun _ M Q=>∀ p,M p=none->Q (.ref p) (mup M p (Ph tk))
theorem LI (tk:Bool):aV D (.Dict [] [] pos) (EK tk):=by
 cases tk with
 | false =>
  refine ⟨HM,fun X h=>Ke,fun σ τ H M Q' rs rm h Q c p hp=>?_⟩
  have st:aR H M (upd H p (.dK [])) (mup M p (.dK [])):=aR.own rm hp
  exact c (.ref p) _ _ _ st (rm.put st ⟨[],cJ,.nil⟩) m8 (h p (rm.no hp))
 | true =>
  refine ⟨Iq,fun X h=>KW,fun σ τ H M Q' rs rm h Q c p hp=>?_⟩
  have st:aR H M (upd H p (.dT [])) (mup M p (.dT [])):=aR.own rm hp
  exact c (.ref p) _ _ _ st (rm.put st ⟨[],cJ,.nil⟩) m8 (h p (rm.no hp))
def Lx (tk:Bool) (te to ti:UE):US:=fun D τ M=>te τ M fun v M1=>to τ M1 fun x M2=>ti τ M2 fun y M3=>match x with
 | .ref a=>match tk with
  | false=>match M3 a,sS y with
   | some (.dK kvs),some k=>kvs.length < sizeLine/\D.nx τ (mup M3 a (.dK (uX kvs k v)))
   | _,_=>False
  | true=>match M3 a,y with
   | some (.dT kvs),.tup ys=>match n5 ys with
    | some ks=>kvs.length < sizeLine/\D.nx τ (mup M3 a (.dT (uX kvs ks v)))
    | none=>False
   | _,_=>False
 | _=>False
theorem LS (tk:Bool) (hk:tk=true->qR D.K) {tpos:Pos} (he:aV D e te) (ho:aV D o to) (hi:aV D i ti) (hs:∀ env,swapsWith e (some (.Subscript o i tpos)) pos.line env=pure false:=by intro _;rfl):rO D (.Assign [.Subscript o i tpos] e pos) (Lx tk te to ti):=by
 obtain ⟨_,p1,s1⟩:=he;obtain ⟨_,p2,s2⟩:=ho;obtain ⟨_,p3,s3⟩:=hi
 refine ⟨_,fun X h=>MM (Ei h.room) (p2 X h) (p3 X h) (p1 X h) (hs _),fun σ τ H M D' rs rm h EE d=>?_⟩
 refine s1 σ τ H M _ rs rm h _ fun v vv M1 H1 st1 rm1 rv h1=>?_
 refine s2 σ τ H1 M1 _ (rs.stp st1) rm1 h1 _ fun x vx M2 H2 st2 rm2 rx h2=>?_
 refine s3 σ τ H2 M2 _ ((rs.stp st1).stp st2) rm2 h2 _ fun y vy M3 H3 st3 rm3 ry h3=>?_
 have rv3:=(rv.stp st2).stp st3
 have rs3:=((rs.stp st1).stp st2).stp st3
 cases x with
 | ref a =>
  cases (rx.stp st3).ref
  cases tk with
  | false =>
   dsimp only at h3
   split at h3
   ·rename_i kvs k e1 e2
    obtain ⟨hl,q⟩:=h3
    obtain ⟨ws,hv,r⟩:=rm3 a _ e1
    have:=wF ry e2
    subst this
    have st4:aR H3 M3 (upd H3 a (.dK (putK ws k vv))) (mup M3 a (.dK (uX kvs k v))):=aR.write e1
    have rnew:RelM D.K (upd H3 a (.dK (putK ws k vv))) (mup M3 a (.dK (uX kvs k v))):=rm3.put st4 ⟨_,cJ,(r.put k rv3).stp st4⟩
    exact ⟨a,_,rfl,.k hv (by rw [<- r.length];exact hl),d.nx _ _ _ _ (((st1.trans st2).trans st3).trans st4) rnew (rs3.stp st4) q⟩
   ·exact h3.elim
  | true =>
   dsimp only at h3
   split at h3
   ·rename_i kvs ys e1
    split at h3
    ·rename_i ks e2
     obtain ⟨hl,q⟩:=h3
     obtain ⟨ws,hv,r⟩:=rm3 a _ e1
     obtain ⟨b,rfl,hb⟩:=DY (hk rfl) ry e2
     have st4:aR H3 M3 (upd H3 a (.dT (putK ws ks vv))) (mup M3 a (.dT (uX kvs ks v))):=aR.write e1
     have rnew:RelM D.K (upd H3 a (.dT (putK ws ks vv))) (mup M3 a (.dT (uX kvs ks v))):=rm3.put st4 ⟨_,cJ,(r.put ks rv3).stp st4⟩
     exact ⟨a,_,rfl,.t hv hb (by rw [<- r.length];exact hl),d.nx _ _ _ _ (((st1.trans st2).trans st3).trans st4) rnew (rs3.stp st4) q⟩
    ·exact h3.elim
   ·exact h3.elim
 | _=>exact h3.elim
end
end U2
namespace U2
open PySem PySem.Spec PyProof.Rows L2
end U2
namespace U2
open PySem PySem.Spec PyProof.Rows L2
abbrev Fu (qual:Str) (scope:Scope) (L f c:Addr) (cl:List (Str × Addr)):Env:=PySem.W.envX qual scope L f (.ref c) cl
def AE (P:Program) (w:World) (K:PySem.W.Frag) (mg:Str->Option Value) (base:Heap) (N:List Str) (qual:Str) (scope:Scope) (f c:Addr) (cl:List (Str × Addr)) (A:Around) (outer:List Env) (s:Shared) (H:Hp):Cx where
 prog:=P
 w:=w
 K:=K
 mg:=mg
 base:=base
 A:=A.deeper (Fu qual scope s.heap.objs.size f c cl)
 N:=N
 s₀:=s
 H₀:=H
 env:=Fu qual scope s.heap.objs.size f c cl
 outer:=outer
 stack:=Fu qual scope s.heap.objs.size f c cl :: outer
 ex:=[]
 calm:=true
 fn:=fun _=>false
 pn:=[]
 xe:=fun _ _=>False
structure A9 (N ps:List Str) (sc:Scope):Prop where
 kind:sc.kind=.function
 co:sc.isCoroutine=false
 gen:sc.isGenerator=false
 nd:N.Nodup
 pre:N.take ps.length=ps
 par:∀ x∈ps,sc.names.lookup x=some .local
 cells:∀ y∈sc.names,y.2≠.cell
 cap:∀ x∈N.drop ps.length,sc.names.lookup x=some .free
theorem xQ:∀ {ps:List Str} {us:List Value} {i:Nat} {x:Str} {u:Value},ps.Nodup->ps[i]?=some x->us[i]?=some u->(ps.zip us).reverse.lookup x=some u
 | [],_,i,_,_,_,h,_=>by simp at h
 | _ :: _,[],i,_,_,_,_,h=>by simp at h
 | p :: ps,v :: us,i,x,u,nd,h1,h2=>by
  rw [List.zip_cons_cons,List.reverse_cons,List.lookup_append]
  cases i with
  | zero =>
   have e1:p=x:=by simpa using h1
   have e2:v=u:=by simpa using h2
   subst e1;subst e2
   have hn:(ps.zip us).reverse.lookup p=none:=by
    rw [List.lookup_eq_none_iff]
    intro q hq
    have hq':=List.mem_reverse.mp hq
    have:=(List.of_mem_zip hq').1
    have hne:p≠q.1:=fun z=>(List.nodup_cons.mp nd).1 (by rw [z];exact this)
    simpa using hne
   rw [hn]
   simp [List.lookup_cons]
  | succ i =>
   have:=xQ (i:=i) (x:=x) (u:=u) (List.nodup_cons.mp nd).2 (by simpa using h1) (by simpa using h2)
   rw [this];rfl
theorem Ox {P:Program} {w:World} {K:PySem.W.Frag} {mg:Str->Option Value} {base:Heap} {k:Nat} {fl c:Addr} {name qual:Str} {params:Arguments} {body:Expr} {scope:Scope} {cl:List (Str × Addr)} {pm ctv:Value} {N ps:List Str} {caps:List (Option V)} {sp:Sp}
  (ho:base.get? fl=some (PySem.W.kla_obj name qual params body scope cl pm c ctv)) (hc:base.CodeRec (.ref c) qual) (S:A9 N ps scope)
  (inj:∀ x y a,cl.lookup x=some a->cl.lookup y=some a->x=y) (has:∀ x,scope.names.lookup x=some .free->∃ a,cl.lookup x=some a) (cel:∀ x a,cl.lookup x=some a->∃ v,base.IsCell a v)
  (cap:∀ (j:Nat) x v,N[ps.length + j]?=some x->caps[j]?=some (some v)->∃ a u,cl.lookup x=some a/\base.IsCell a (some u)/\RelV v u) (hlN:N.length=ps.length + caps.length)
  (len:∀ vs H Q E,sp vs H Q E->vs.length=ps.length)
  (hbody:∀ (A:Around) (outer:List Env) (s:Shared) (H:Hp) (vs:List V) (Q:VK) (E:XK),fT k (A.deeper (Fu qual scope s.heap.objs.size fl c cl))->sp vs H Q E ->
   ∃ t,PE (AE P w K mg base N qual scope fl c cl A outer s H) body t/\t (vs.map some++caps) H Q) :
  iZ P w K mg base m5 (k + 1) fl (PySem.W.kla_fn name qual params body scope cl pm (.ref c) ctv) ps sp:=by
 refine ⟨len,fun A outer s H args us vs Q E hr e0 hb r hsp=>?_⟩
 have hl:=len _ _ _ _ hsp
 have lim:s.heap.NoLimit:=e0.mod.nolimit.keeps fun b o e=>(e0.bs b o e).1
 have hloc:∀ y∈ps.zip us,scope.names.lookup y.1=some .local:=fun ⟨n,v⟩ hy=>S.par n (List.of_mem_zip hy).1
 refine PySem.W.kla_callFunE hr.depth (e0.bs _ _ ho).1 rfl S.co S.gen rfl (hc.keeps fun b o e=>(e0.bs b o e).1) (hb _ _ _ _ ?_)
 refine wpAny_newFunctionEnv S.cells hloc (fun h₁ hns hsb=>⟨lim.fresh _ hsb,PySem.W.kla_codeExpr ?_⟩) S.kind
 have keep:∀ b o,s.heap.get? b=some o->h₁.get? b=some o:=fun b o e=>hsb.extBut b o (Nat.ne_of_lt (Heap.lt_size e)) (Heap.get?_push_of_some _ e)
 obtain ⟨t,ht,hq⟩:=hbody A outer s H vs Q E (hr.deeper _) hsp
 have I:L2.Inv (AE P w K mg base N qual scope fl c cl A outer s H) [] (vs.map some++caps) H { s with heap:=h₁,toks:=s.toks + (ps.zip us).length }:=by
  have noA:∀ b:Addr,b ∉ (AE P w K mg base N qual scope fl c cl A outer s H).ex:=fun b z=>absurd (show b∈([]:List Addr) from z) (by simp)
  refine ⟨⟨e0.mod,S.kind,rfl,rfl,Nat.le_refl _,inj,fun y hy=>?_,fun y a z=>(by cases z),fun _=>hr.hd,Around.frames_deeper e0.frames,.inr ⟨rfl,rfl⟩,fun b z=>absurd z (noA b),e0.bs,e0.bsz,fun b _ _=>noA b,fun b z=>absurd z (noA b),e0.funs,e0.frf⟩,
   rfl,e0.bare,Un.kept keep,⟨_,hns,fun i y v h1 h2 h3=>?_⟩,fun y a h=>?_,e0.hok.fresh (Nat.le_refl _),fun y a h=>?_,fun p hp=>absurd (show p∈([]:List (Addr × Obj)) from hp) (by simp),e0.hok.kept keep,?_⟩
  ·have hy:scope.names.lookup y=some .cell\/scope.names.lookup y=some .free:=hy
   rcases hy with hy | hy
   ·exact absurd rfl (S.cells _ (PySem.mem_of_lookup hy))
   ·exact has y hy
  ·have hlen:(vs.map some).length=ps.length:=by rw [List.length_map,hl]
   by_cases hi:i < ps.length
   ·have ha:vs[i]?=some v:=by
     rw [List.getElem?_append_left (by rw [hlen];exact hi),List.getElem?_map] at h2
     cases e:vs[i]? with
     | none=>rw [e] at h2;cases h2
     | some a=>rw [e] at h2;cases h2;rfl
    obtain ⟨u,hu,rv⟩:=r.get ha
    have hp:ps[i]?=some y:=by rw [<- S.pre,List.getElem?_take_of_lt hi];exact h1
    have ndP:ps.Nodup:=by rw [<- S.pre];exact S.nd.sublist (List.take_sublist _ _)
    exact ⟨u,rv,.inl ⟨S.par y (List.mem_of_getElem? hp),xQ ndP hp hu⟩⟩
   ·obtain ⟨j,rfl⟩:∃ j,i=ps.length + j:=⟨i - ps.length,by omega⟩
    rw [List.getElem?_append_right (by rw [hlen];omega),hlen,Nat.add_sub_cancel_left] at h2
    obtain ⟨a,u,e1,e2,e3⟩:=cap j y v h1 h2
    have hk:scope.names.lookup y=some .free:=S.cap y (List.mem_of_getElem? (i:=j) (by rw [List.getElem?_drop];exact h1))
    exact ⟨u,e3,.inr ⟨.inr hk,a,e1,e2.keeps fun b o e=>keep b o (e0.bs b o e).1⟩⟩
  ·obtain ⟨v,hv⟩:=cel y a h
   exact ⟨v,hv.keeps fun b o e=>keep b o (e0.bs b o e).1⟩
  ·obtain ⟨v,o,hv,_⟩:=cel y a h
   exact (e0.bs _ _ hv).2
  ·rw [List.length_append,List.length_map,hl];exact hlN.symm
 refine wpAny_mono (ht [] _ _ H Q I hq) (fun u s' hs=>?_) fun e s' hs=>hs.elim
 obtain ⟨v,H',J,rv,q⟩:=hs
 exact ⟨v,H',J.os,J.bare,J.base,J.hok,rv,q⟩
end U2
namespace U2
open PySem PySem.Spec PyProof.Rows L2
structure Gx where
 params:Arguments
 body:Expr
 scope:Scope
def AH (X:Cx) (s:Shared) (H:Hp) (M:aF) (q:Str) (l:Gx) (fl:Addr):Prop :=
 ∃ cl pm ctv c oc vs t,closureFor l.scope X.env=pure cl/\(s.heap.get? fl=some (PySem.W.kla_obj "<lambda>" q l.params l.body l.scope cl pm c ctv)/\H fl=none/\fl≠X.env.locals/\fl ∉ X.fs)/\H c=some (.frz oc (.own 0))/\M c=none/\oc.data=.fields vs/\vs[1]?=some (.str q t)
abbrev tS:=SU->aF->(List U->List Addr->aF->Prop)->Prop
def uR (D:Dat) (q:Str) (es:List Expr) (ls:List Gx) (t:tS):Prop :=
 ∀ X,lW D X->∀ (pos:Pos) (pins:List (Addr × Obj)) (s:Shared) (σ:L2.St) (H:Hp) (τ:SU) (M:aF) (Q:List U->List Addr->aF->Prop),L2.Inv X pins σ H s->dU D.K H M σ τ->RelM D.K H M->t τ M Q ->
  wpAny (model X.prog X.w) X.A (spliced (backTo pos (starEach es X.env))) (fun us s'=>∃ ws vs fs M' H',L2.Inv X pins σ H' s'/\Vals vs us/\aR H M H' M'/\RelM D.K H' M'/\aI D.K H' M' ws vs/\Paired (AH X s' H' M' q) ls fs/\Q ws fs M') X.xe s
def Ep:tS:=fun _ M Q=>Q [] [] M
def Ba (te:UE) (t:tS):tS:=fun τ M Q=>te τ M fun u M1=>t τ M1 fun us fs M2=>Q (u :: us) fs M2
def Fv (P:Addr) (q:Str) (t:tS):tS:=fun τ M Q=>M P=some (.tbl q)/\∀ fl,t τ M fun us fs M2=>Q (.ref fl :: us) (fl :: fs) M2
theorem Og {D:Dat} {q:Str}:uR D q [] [] Ep:=fun X h pos pins s σ H τ M Q I rs rm ht=>Calls.spliced_nil ⟨[],[],[],M,H,I,.nil,aR.refl H M,rm,.nil,.nil,ht⟩
theorem LP {D:Dat} {q:Str} {e:Expr} {es:List Expr} {ls:List Gx} {te:UE} {t:tS} (ha:aV D e te) (hr:uR D q es ls t) (hs:∀ env,starEach (e :: es) env=(false,eval e env) :: starEach es env:=by intro _;rfl):uR D q (e :: es) ls (Ba te t):=by
 obtain ⟨t0,p,sim⟩:=ha
 intro X h pos pins s σ H τ M Q I rs rm ht
 rw [hs]
 show wpAny _ _ (spliced ((false,eval e X.env) :: backTo pos (starEach es X.env))) _ _ s
 refine Calls.spliced_cons (bG (p X h pins s σ H (fun v H1=>∃ u M1,aR H M H1 M1/\RelM D.K H1 M1/\aJ D.K H1 M1 u v/\t τ M1 fun us fs M2=>Q (u :: us) fs M2) I (sim σ τ H M _ rs rm ht _ fun u v M1 H1 st rm1 ru q=>⟨u,M1,st,rm1,ru,q⟩)) fun uu s1 ⟨v,H1,I1,r1,u,M1,st,rm1,ru,q⟩=>?_)
 exact bG (hr X h pos pins s1 σ H1 τ M1 _ I1 (rs.stp st) rm1 q) fun us s2 ⟨ws,vs,fs,M2,H2,I2,rv,st2,rm2,rus,pl,q2⟩ =>
  ⟨u :: ws,v :: vs,fs,M2,H2,I2,.cons r1 rv,st.trans st2,rm2,.cons (ru.stp st2) rus,pl,q2⟩
def iO (base:Heap) (mg:Str->Option Value):Prop:=∃ bm o,mg "__builtins__"=some (.ref bm)/\bm≠builtinsNs/\bm≠mainGlobals/\base.get? bm=some o/\o.cls=.type "module"/\o.dict=some builtinsNs/\o.data=.plain
theorem FR {pos:Pos} {a b:Int} {c v:Value}:∀ (l:List Value),TriplesOk l->codeAmong pos (l++[rawInt a,rawInt b,c])=some v->codeAmong pos l=some v\/v=c:=fun l h=>by
 fun_induction TriplesOk l with
 | case1 =>
  intro e
  simp only [List.nil_append,codeAmong,rawInt] at e
  split at e
  ·cases e;exact .inr rfl
  ·cases e
 | case2 a' t b' u x rest ih =>
  intro e
  simp only [List.cons_append,codeAmong] at e ⊢
  split at e
  ·rename_i hc;rw [if_pos hc];exact .inl e
  ·rename_i hc;rw [if_neg hc];exact ih h e
 | case3 l h1 h2=>exact h.elim
theorem Inv.addPin {X:Cx} {pins:List (Addr × Obj)} {σ:L2.St} {H:Hp} {s:Shared} {a:Addr} {o:Obj} (I:L2.Inv X pins σ H s) (h:s.heap.get? a=some o/\H a=none/\a≠X.env.locals/\a ∉ X.fs/\∀ v,o.data≠.cell v):L2.Inv X ((a,o) :: pins) σ H s :=
 ⟨I.ok,I.os,I.bare,I.base,I.loc,I.cell,I.free,I.freeC,fun p hp=>by
  rcases List.mem_append.mp hp with hp | hp
  ·exact I.pin p (List.mem_append_left _ hp)
  ·rcases List.mem_cons.mp hp with rfl | hp
   ·exact h
   ·exact I.pin p (List.mem_append_right _ hp),I.hok,I.len⟩
theorem Inv.unPin {X:Cx} {pins:List (Addr × Obj)} {σ:L2.St} {H:Hp} {s:Shared} {a:Addr} {o:Obj} (I:L2.Inv X ((a,o) :: pins) σ H s):L2.Inv X pins σ H s :=
 ⟨I.ok,I.os,I.bare,I.base,I.loc,I.cell,I.free,I.freeC,fun p hp=>I.pin p (by
  rcases List.mem_append.mp hp with hp | hp
  ·exact List.mem_append_left _ hp
  ·exact List.mem_append_right _ (List.mem_cons_of_mem _ hp)),I.hok,I.len⟩
theorem Hc {D:Dat} {q:Str} {es:List Expr} {ls:List Gx} {t:tS} {params:Arguments} {body:Expr} {scope:Scope} {lpos:Pos} {c0 P:Addr} (hK:PySem.W.codeHdIn D.K c0 P=true) (hB:iO D.base D.mg) (hr:uR D q es ls t) (hcod:D.cod=.ref c0:=by rfl) (hq:D.qual++"<lambda>"=q:=by rfl)
  (hfree:∀ y∈scope.names,y.2=.free->D.sc.names.lookup y.1=some .cell\/D.sc.names.lookup y.1=some .free:=by first | decide +kernel | (dsimp only;decide +kernel)) (hs:∀ env,starEach (.Lambda params body scope lpos :: es) env=(false,eval (.Lambda params body scope lpos) env) :: starEach es env:=by intro _;rfl) (hdef:∀ env,defaultsOf params env=([],[]):=by intro _;rfl) :
  uR D q (.Lambda params body scope lpos :: es) (⟨params,body,scope⟩ :: ls) (Fv P q t):=by
 intro X h pos pins s σ H τ M Q I rs rm ⟨hMP,ht⟩
 obtain ⟨huniq,ps,hHP,htr,hcodes⟩:=rm P _ hMP
 have hPg:s.heap.get? P=some (PySem.W.tabObj ps):=I.hok P _ hHP
 obtain ⟨e1,e2⟩:=h.cod (by rw [hcod];simp)
 rw [hcod] at e1
 obtain ⟨cl,hclos,hcl,hcl2⟩:=tD (env:=X.env) (scope:=scope) (fun x hx e=>I.ok.has x.1 (by show X.env.scope.names.lookup _=_\/X.env.scope.names.lookup _=_;rw [h.sc];exact hfree x hx e))
 have C:PySem.W.CodeHd s.heap c0 P:=PySem.W.codeHd_of_K I.kIn (by rw [h.K];exact hK)
 have hg:s.heap.Ns mainGlobals X.mg:=I.mod.glob.keeps I.bk
 have noP:∀ b o,X.base.get? b=some o->b≠P:=fun b o e z=>by
  have:=(I.bs b o e).2
  rw [z,hHP] at this;cases this
 have hgP:mainGlobals≠P:=by
  obtain ⟨o,es,ep,e,_⟩:=I.mod.glob
  exact noP _ _ e
 have hb:s.heap.BuiltinsAt X.mg P:=by
  obtain ⟨bm,o,b1,b2,b3,b4,b5⟩:=hB
  rw [<- h.base] at b4
  rw [<- h.mg] at b1
  exact ⟨bm,o,b1,b2,b3,noP _ _ b4,I.bk _ _ b4,b5⟩
 rw [hs]
 show wpAny _ _ (spliced ((false,eval (.Lambda params body scope lpos) X.env) :: backTo pos (starEach es X.env))) _ _ s
 refine Calls.spliced_cons (PySem.W.kla_eval (hdef _) ?_)
 rw [e2,hq]
 have done:∀ (H1:Hp) (s1:Shared) (fl c:Addr) (oc:Obj) (vs:Array Value) (tk:Tok) (pm ctv:Value),L2.Inv X pins σ H1 s1->s1.heap.get? fl=some (PySem.W.kla_obj "<lambda>" q params body scope cl pm c ctv)->H1 fl=none->fl≠X.env.locals->fl ∉ X.fs->aR H M H1 M->RelM D.K H1 M->H1 c=some (.frz oc (.own 0))->M c=none->oc.data=.fields vs->vs[1]?=some (.str q tk) ->
   wpAny (model X.prog X.w) X.A (spliced (backTo pos (starEach es X.env))) (fun us s'=>∃ ws vs fs M' H',L2.Inv X pins σ H' s'/\Vals vs (.ref fl :: us)/\aR H M H' M'/\RelM D.K H' M'/\aI D.K H' M' ws vs/\Paired (AH X s' H' M' q) (⟨params,body,scope⟩ :: ls) fs/\Q ws fs M') X.xe s1:=by
  intro H1 s1 fl c oc vs tk pm ctv I1 hfl hH1 hne hnf st rm1 hc hMc hd hv
  have Ip:=Inv.addPin I1 ⟨hfl,hH1,hne,hnf,fun v z=>by cases z⟩
  refine bG (hr X h pos _ s1 σ H1 τ M _ Ip (rs.stp st) rm1 (ht fl)) fun us s2 ⟨ws,vs',fs,M2,H2,I2,rv,st2,rm2,rus,pl,q2⟩=>?_
  obtain ⟨p1,p2,p3,p4,_⟩:=I2.pin (fl,_) (List.mem_append_right _ List.mem_cons_self)
  exact ⟨.ref fl :: ws,.ref fl :: vs',fl :: fs,M2,H2,Inv.unPin I2,.cons rfl rv,st.trans st2,rm2,.cons m8 rus,.cons ⟨cl,pm,ctv,c,oc,vs,tk,hclos,⟨p1,p2,p3,p4⟩,(st2.to hc hMc).1,(st2.to hc hMc).2,hd,hv⟩ pl,q2⟩
 have hLs:X.env.locals < s.heap.objs.size:=I.lt
 cases hf:codeAmong lpos ps.toList with
 | some cv =>
  obtain ⟨c,oc,vs,tk,rfl,hHc,hMc,hd,hv⟩:=hcodes _ _ hf
  refine PySem.W.kla_makeFunctionHit (mg:=X.mg) hclos I.ok.glob hg e1 C hPg htr hf hb fun ctv h' tk' hk hsz=>?_
  have keep:∀ b o,s.heap.get? b=some o->(h'.push (PySem.W.kla_obj "<lambda>" q params body scope cl ((X.mg "__name__").getD .none) c ctv)).get? b=some o:=fun b o e=>Heap.get?_push_of_some _ (hk b o e)
  exact done H _ h'.objs.size c oc vs tk _ ctv (I.kept (t':=tk') keep) (Heap.get?_push_size _ rfl) (I.hok.fresh hsz) (Nat.ne_of_gt (Nat.lt_of_lt_of_le hLs hsz)) (I.nofs hsz) (aR.refl H M) rm hHc hMc hd hv
 | none =>
  refine PySem.W.kla_makeFunction (mg:=X.mg) hclos I.ok.glob hg e1 C hPg htr hf hgP hb fun c ctv h' tk' hx hge hlt hrec htb=>?_
  obtain ⟨c₂,oc,vs,tk,e2,hoc,hd,hv⟩:=hrec
  cases e2
  have hHc:H c=none:=I.hok.fresh hge
  have hcP:c≠P:=fun z=>by rw [z,hHP] at hHc;cases hHc
  have hsz:s.heap.objs.size<=h'.objs.size:=by omega
  generalize hps:ps++#[rawInt lpos.line,rawInt lpos.col,.ref c]=ps' at htb
  generalize hobj:PySem.W.kla_obj "<lambda>" q params body scope cl ((X.mg "__name__").getD .none) c ctv=obj
  have keep:∀ b o,b≠P->s.heap.get? b=some o->(h'.push obj).get? b=some o:=fun b o n e=>Heap.get?_push_of_some _ (hx b o n e)
  have hH1c:upd (upd H c (.frz oc (.own 0))) P (.tbl ps') c=some (.frz oc (.own 0)):=by rw [bL hcP,cJ]
  have hH1:∀ b,b≠P->b≠c->upd (upd H c (.frz oc (.own 0))) P (.tbl ps') b=H b:=fun b n1 n2=>by rw [bL n1,bL n2]
  have hH1P:upd (upd H c (.frz oc (.own 0))) P (.tbl ps') P=some (.tbl ps'):=cJ
  generalize hHH:upd (upd H c (.frz oc (.own 0))) P (.tbl ps')=H1 at hH1c hH1 hH1P
  have nc:∀ b o,H b=some o->b≠c:=fun b o e z=>by rw [z,hHc] at e;cases e
  have lt:∀ b o,s.heap.get? b=some o->b≠c:=fun b o e=>Nat.ne_of_lt (Nat.lt_of_lt_of_le (Heap.lt_size e) hge)
  have un:Un X.fs [] H H1 s.heap (h'.push obj):=by
   refine ⟨fun b o e n _ _=>keep b o (fun z=>by rw [z,hHP] at n;cases n) e,fun b o e n _ _=>⟨o.slots,keep b o (fun z=>by rw [z,hHP] at n;cases n) e⟩,fun b o e n _=>?_,fun b o e _=>?_,fun b xs e=>?_,fun b o u e=>?_,fun b qs e=>?_⟩
   ·rw [hH1 b (fun z=>by rw [z,hHP] at n;cases n) (lt b o e)];exact n
   ·by_cases hbP:b=P
    ·subst hbP;exact ⟨_,Heap.get?_push_of_some _ htb⟩
    ·exact ⟨o,keep b o hbP e⟩
   ·rw [hH1 b (fun z=>by rw [z,hHP] at e;cases e) (nc b _ e)];exact e
   ·rw [hH1 b (fun z=>by rw [z,hHP] at e;cases e) (nc b _ e)];exact e
   ·by_cases hbP:b=P
    ·subst hbP
     rw [hHP] at e;cases e
     exact ⟨_,by rw [hH1P,<- hps]⟩
    ·exact ⟨#[],by rw [hH1 b hbP (nc b _ e),e];simp⟩
  have hok:gJ X.prog X.w H1 (h'.push obj):=by
   intro b o e
   by_cases hbP:b=P
   ·subst hbP;rw [hH1P] at e;cases e;exact Heap.get?_push_of_some _ htb
   ·by_cases hbc:b=c
    ·subst hbc;rw [hH1c] at e;cases e;exact ⟨Heap.get?_push_of_some _ hoc,_,Heap.get?_push_of_some _ hoc⟩
    ·rw [hH1 b hbP hbc] at e
     refine (I.hok b o e).stay (fun a u ha ea=>keep a u (fun z=>?_) ea) (fun a ea=>?_) (fun a xs ea=>?_)
     ·rcases ha with ha | ha
      ·exact hbP (ha.symm.trans z)
      ·rw [z,hHP] at ha;cases ha
     ·rw [hH1 a (fun z=>by rw [z,hHP] at ea;cases ea) (nc a _ ea)];exact ea
     ·rw [hH1 a (fun z=>by rw [z,hHP] at ea;cases ea) (nc a _ ea)];exact ea
  have hMc:M c=none:=rm.no hHc
  have st:aR H M H1 M:=.by' fun b o e m=>⟨by rw [hH1 b (fun z=>by rw [z,hMP] at m;cases m) (nc b o e)];exact e,m⟩
  have rm1:RelM D.K H1 M:=fun a mo e=>by
   by_cases haP:a=P
   ·subst haP
    rw [hMP] at e;cases e
    refine ⟨huniq,ps',hH1P,by rw [<- hps];simpa using TriplesOk_snoc _ _ _ _ htr,fun pos' v hv'=>?_⟩
    rw [<- hps] at hv'
    have hv2:codeAmong pos' (ps.toList++[rawInt lpos.line,rawInt lpos.col,.ref c])=some v:=by simpa using hv'
    rcases FR ps.toList htr hv2 with z | rfl
    ·obtain ⟨c',oc',vs',t',y1,y2,y3,y4⟩:=hcodes _ _ z
     exact ⟨c',oc',vs',t',y1,(st.to y2 y3).1,y3,y4⟩
    ·exact ⟨c,oc,vs,tk,rfl,hH1c,hMc,hd,hv⟩
   ·have hac:a≠c:=fun z=>by subst z;rw [hMc] at e;cases e
    exact (rm a mo e).stp (fun _ _ z=>z) st (hH1 a haP hac)
  have I1:=I.un (t':=tk') un hok
  refine done H1 _ h'.objs.size c oc vs tk _ ctv I1 (by rw [<- hobj];exact Heap.get?_push_size _ rfl) (by rw [hH1 _ (Nat.ne_of_gt (Nat.lt_of_lt_of_le (Heap.lt_size hPg) hsz)) (Nat.ne_of_gt hlt)];exact I.hok.fresh hsz) (Nat.ne_of_gt (Nat.lt_of_lt_of_le hLs hsz)) (I.nofs hsz) st rm1 hH1c hMc hd hv
end U2
namespace U2
open PySem PySem.Spec PyProof.Rows L2
structure d9 (P:Program) (w:World) (K:PySem.W.Frag) (mg:Str->Option Value) (base:Heap) (j:Nat) (f:Addr) (sp:bF):Prop where
 ex:∃ fd ps,iZ P w K mg base m5 j f fd ps (fE K sp)/\(PySem.W.keepIn K (.ref f)=true\/∃ o fd',base.get? f=some o/\o.data=.func fd')/\Binds K fd ps []
theorem v9.f {P:Program} {w:World} {K:PySem.W.Frag} {mg:Str->Option Value} {base:Heap} {j:Nat} {f:Addr} {sp:bF} (c:v9 P w K mg base j f sp):d9 P w K mg base j f sp :=
 let ⟨fd,ps,a,b,d⟩:=c.ex;⟨fd,ps,a,.inl b,d⟩
theorem GQ {X:Cx} {x:Str} {p pos:Pos} {e:Expr} {es:List Expr} {i k:Nat} {f:Addr} {fd:FuncData} {ps:List Str} {sp:Sp} {t:TA} (hN:X.N[i]?=some x) (hv:DH X.env.scope x) (F:iZ X.prog X.w X.K X.mg X.base m5 k f fd ps sp) (hr:fT k X.A) (hk:PySem.W.keepIn X.K (.ref f)=true\/∃ o fd',X.base.get? f=some o/\o.data=.func fd') (hb:Binds X.K fd ps [])
  (ha:PA X (e :: es) t) (hd:(x == ("__debug__":Str))=false) (hcd:(x == ("__classdict__":Str))=false) (he:starEach (e :: es) X.env=(false,eval e X.env) :: starEach es X.env) (hpl:(backTo pos (starEach es X.env)).any (·.1)=false) :
  PE X (.Call (.Name x p) (e :: es) [] pos) (G3 i f sp t):=by
 intro pins s σ H Q I h
 refine wpAny_Call_Name_kw (bG (HI (i:=i) hN hv hd hcd pins s σ H _ I h) fun v s1 ⟨x',H1,I1,r1,e1,q1⟩=>?_)
 subst e1
 cases r1
 rcases hk with hk | ⟨o,fd',ho,hof⟩
 ·refine PySem.W.callWith_K (h₀:=X.base) I1.ok.mod.kin hk (bG (ha pos pins s1 σ H1 _ I1 q1) fun us s2 ⟨vs,H2,I2,r,q⟩=>⟨I2.kIn,?_⟩) he hpl
  exact Bs (dvs:=[]) F hr hb .nil Er I2 r (by rw [List.append_nil];exact q)
 ·have ha':=ha pos pins s1 σ H1 _ I1 q1
  rw [he] at ha' ⊢
  refine PySem.W.callWith_of (P:=fun h=>h.get? f=some o) (by show ((false || (backTo pos (starEach es X.env)).any (·.1)) || false)=false;rw [hpl];rfl) (fun h0 hh=>?_) (Calls.evalArgs_plain (bG ha' fun us s2 ⟨vs,H2,I2,r,q⟩=>⟨I2.bk _ _ ho,?_⟩))
  ·refine ⟨.frame,.inl rfl,(PySem.W.Looks.ld (part:=none) hh).andThen ?_⟩
   obtain ⟨oc,od,odt,osl⟩:=o
   have:odt=.func fd':=hof
   subst this
   exact .now
  ·exact Bs (dvs:=[]) F hr hb .nil Er I2 r (by rw [List.append_nil];exact q)
section
variable {D:Dat}
theorem wH (i:Nat) {x:Str} {p pos:Pos} {e:Expr} {es:List Expr} {j:Nat} {f:Addr} {sp:bF} {tas:UA} (F:d9 D.prog D.w D.K D.mg D.base j f sp) (ha:lP D (e :: es) tas) (hN:D.N[i]?=some x:=by rfl) (hv:DH D.sc x:=by first | exact Or.inl rfl | exact Or.inr (Or.inl rfl) | exact Or.inr (Or.inr rfl))
  (hj:j<=D.k:=by first | exact Nat.le_refl _ | (dsimp only;omega) | omega | (dsimp only [bO];omega)) (hd:(x == ("__debug__":Str))=false:=by decide) (hcd:(x == ("__classdict__":Str))=false:=by decide)
  (he:∀ env,starEach (e :: es) env=(false,eval e env) :: starEach es env:=by intro _;rfl) (hpl:∀ env,(backTo pos (starEach es env)).any (·.1)=false:=by intro _;rfl):aV D (.Call (.Name x p) (e :: es) [] pos) (mR i f sp tas):=by
 obtain ⟨fd,ps,F,kp,hb⟩:=F.ex
 obtain ⟨t,q,s⟩:=ha
 refine ⟨G3 i f (fE D.K sp) t,fun X h=>?_,fun σ τ H M Q' rs rm h Q c=>?_⟩
 ·have F':iZ X.prog X.w X.K X.mg X.base m5 j f fd ps (fE D.K sp):=by rw [h.prog,h.w,h.K,h.mg,h.base];exact F
  exact GQ (by rw [h.N];exact hN) (by rw [h.sc];exact hv) F' (h.room.mono hj) (by rw [h.K,h.base];exact kp) (by rw [h.K];exact hb) (q X h) hd hcd (he _) (hpl _)
 ·refine DE i σ τ H M _ rs rm h _ fun u v M1 H1 s1 rm1 ru h1=>?_
  obtain ⟨rfl,h1⟩:=h1
  refine ⟨ru.ref,s σ τ H1 M1 _ (rs.stp s1) rm1 h1 _ fun us vs M2 H2 s2 rm2 rus h2=>?_⟩
  exact ⟨us,M2,Q',rm2,rus,h2,cW.stp c (s1.trans s2)⟩
end
def BG (H:Hp) (M:aF) (H1:Hp) (M1:aF):Prop:=∀ b o,H b=some o->M b=none->(∀ oc,o≠.frz oc (.own 0))->(∀ ps,o≠.tbl ps)->H1 b=some o/\M1 b=none
mutual
theorem aJ.stq {K:PySem.W.Frag} {H H1:Hp} {M M1:aF} (st:BG H M H1 M1):∀ {u:U} {v:V},aJ K H M u v->aJ K H1 M1 u v
 | .non,_,h=>by simpa only [aJ] using h
 | .bl _,_,h=>by simpa only [aJ] using h
 | .int _,_,h=>by simpa only [aJ] using h
 | .str _,_,h=>by simpa only [aJ] using h
 | .ty _,_,h=>by simpa only [aJ] using h
 | .ref _,_,h=>by simpa only [aJ] using h
 | .tup us,_,h=>by
  simp only [aJ] at h ⊢
  obtain ⟨a,vs,e,h1,h2⟩:=h
  refine ⟨a,vs,e,?_,aI.stq st h2⟩
  obtain ⟨m,r⟩:=h1
  have q:=st a _ r m (by simp) (by simp)
  exact ⟨q.2,q.1⟩
 | .dic ks tk us,_,h=>by
  simp only [aJ] at h ⊢
  obtain ⟨a,vs,e,m,h1,h2⟩:=h
  refine ⟨a,vs,e,?_,?_,aI.stq st h2⟩
  ·cases tk with
   | true=>obtain ⟨ws,e | ⟨o,e⟩,r⟩:=h1 <;> exact (st a _ e m (by intro oc z;cases z) (by simp)).2
   | false=>obtain ⟨ws,e | ⟨o,e⟩,r⟩:=h1 <;> exact (st a _ e m (by intro oc z;cases z) (by simp)).2
  ·cases tk with
   | true=>obtain ⟨ws,e | ⟨o,e⟩,r⟩:=h1;exact ⟨ws,.inl (st a _ e m (by simp) (by simp)).1,r⟩;exact ⟨ws,.inr ⟨o,(st a _ e m (by intro oc z;cases z) (by simp)).1⟩,r⟩
   | false=>obtain ⟨ws,e | ⟨o,e⟩,r⟩:=h1;exact ⟨ws,.inl (st a _ e m (by simp) (by simp)).1,r⟩;exact ⟨ws,.inr ⟨o,(st a _ e m (by intro oc z;cases z) (by simp)).1⟩,r⟩
 | .lst us,_,h=>by
  simp only [aJ] at h ⊢
  obtain ⟨a,vs,e,h1,h2⟩:=h
  refine ⟨a,vs,e,?_,aI.stq st h2⟩
  rcases h1 with ⟨m,r⟩ | k
  ·rcases r with r | ⟨o,r⟩
   ·have q:=st a _ r m (by simp) (by simp)
    exact .inl ⟨q.2,.inl q.1⟩
   ·have q:=st a _ r m (by intro oc z;cases z) (by simp)
    exact .inl ⟨q.2,.inr ⟨o,q.1⟩⟩
  ·exact .inr k
theorem aI.stq {K:PySem.W.Frag} {H H1:Hp} {M M1:aF} (st:BG H M H1 M1):∀ {us:List U} {vs:List V},aI K H M us vs->aI K H1 M1 us vs
 | [],_,h=>by simpa only [aI] using h
 | u :: us,_,h=>by
  simp only [aI] at h ⊢
  obtain ⟨v,vs',e,h1,h2⟩:=h
  exact ⟨v,vs',e,aJ.stq st h1,aI.stq st h2⟩
end
theorem cP.stq {κ:Type} {K:PySem.W.Frag} {H H1:Hp} {M M1:aF} (st:BG H M H1 M1):∀ {us:List (κ × U)} {vs:List (κ × V)},cP K H M us vs->cP K H1 M1 us vs
 | _,_,.nil=>.nil
 | _,_,.cons h t=>.cons ⟨h.1,h.2.stq st⟩ (cP.stq st t)
def eG (q:Str) (o:Option HO):Prop:=∃ oc vs t,o=some (.frz oc (.own 0))/\oc.data=.fields vs/\vs[1]?=some (.str q t)
open Classical in
noncomputable def j0 (q:Str) (H:Hp):Hp:=fun b=>if eG q (H b) then none else H b
open Classical in
noncomputable def nJ (q:Str) (H H2:Hp):Hp:=fun b=>if eG q (H b) then H b else H2 b
def lC (M:aF) (a:Addr):aF:=fun b=>if b=a then none else M b
theorem mC {M:aF} {a:Addr}:lC M a a=none:=by unfold lC;rw [if_pos rfl]
theorem lY {M:aF} {a b:Addr} (h:b≠a):lC M a b=M b:=by unfold lC;rw [if_neg h]
theorem qK {q:Str} {H:Hp} {b:Addr} (h:eG q (H b)):j0 q H b=none:=by unfold j0;exact if_pos h
theorem cX {q:Str} {H:Hp} {b:Addr} (h:¬ eG q (H b)):j0 q H b=H b:=by unfold j0;exact if_neg h
theorem uP {q:Str} {H H2:Hp} {b:Addr} (h:eG q (H b)):nJ q H H2 b=H b:=by unfold nJ;exact if_pos h
theorem dA {q:Str} {H H2:Hp} {b:Addr} (h:¬ eG q (H b)):nJ q H H2 b=H2 b:=by unfold nJ;exact if_neg h
theorem eM {q:Str} {o:HO} (h:eG q (some o)):∃ oc,o=.frz oc (.own 0):=by
 obtain ⟨oc,_,_,e,_⟩:=h;cases e;exact ⟨oc,rfl⟩
theorem xE {q:Str}:¬ eG q none:=fun ⟨_,_,_,e,_⟩=>by cases e
theorem MS {q q':Str} {oc:Obj} {vs:Array Value} {t:Tok} (hd:oc.data=.fields vs) (hv:vs[1]?=some (.str q' t)) (h:eG q (some (.frz oc (.own 0)))):q=q':=by
 obtain ⟨oc',vs',t',e,h1,h2⟩:=h
 cases e
 rw [hd] at h1;cases h1
 rw [hv] at h2;cases h2;rfl
theorem GW {q:Str} {H:Hp} {b:Addr} {o:HO} (h:j0 q H b=some o):H b=some o/\¬ eG q (H b):=by
 by_cases hc:eG q (H b)
 ·rw [qK hc] at h;cases h
 ·rw [cX hc] at h;exact ⟨h,hc⟩
theorem L9 {K:PySem.W.Frag} {H:Hp} {M:aF} {P:Addr} {q:Str} (rm:RelM K H M) (hP:M P=some (.tbl q)):BG H M (j0 q H) (lC M P)/\RelM K (j0 q H) (lC M P):=by
 have sq:BG H M (j0 q H) (lC M P):=fun b o e m n1 n2=>by
  refine ⟨?_,?_⟩
  ·rw [cX (fun z=>by rw [e] at z;obtain ⟨oc,z⟩:=eM z;exact n1 oc z)];exact e
  ·by_cases hb:b=P
   ·rw [hb,mC]
   ·rw [lY hb];exact m
 refine ⟨sq,fun a mo e=>?_⟩
 have ha:a≠P:=fun z=>by rw [z,mC] at e;cases e
 rw [lY ha] at e
 have h:=rm a mo e
 cases mo with
 | lst us=>obtain ⟨vs,x,y⟩:=h;exact ⟨vs,by rw [cX (fun z=>by rw [x] at z;obtain ⟨oc,z⟩:=eM z;cases z)];exact x,y.stq sq⟩
 | dK us=>obtain ⟨vs,x,y⟩:=h;exact ⟨vs,by rw [cX (fun z=>by rw [x] at z;obtain ⟨oc,z⟩:=eM z;cases z)];exact x,y.stq sq⟩
 | dT us=>obtain ⟨vs,x,y⟩:=h;exact ⟨vs,by rw [cX (fun z=>by rw [x] at z;obtain ⟨oc,z⟩:=eM z;cases z)];exact x,y.stq sq⟩
 | dN us=>obtain ⟨vs,x,y⟩:=h;exact ⟨vs,by rw [cX (fun z=>by rw [x] at z;obtain ⟨oc,z⟩:=eM z;cases z)];exact x,y.stq sq⟩
 | cap ps vs us=>exact ⟨by rw [cX (fun z=>by rw [h.1] at z;obtain ⟨oc,z⟩:=eM z;cases z)];exact h.1,h.2.stq sq⟩
 | tbl q' =>
  obtain ⟨un,ps,x,y,z⟩:=h
  have hq:q'≠q:=fun w=>by subst w;exact ha (un P hP).symm
  refine ⟨fun b hb=>un b (by by_cases hbP:b=P;rw [hbP,mC] at hb;cases hb;rw [lY hbP] at hb;exact hb),ps,by rw [cX (fun z=>by rw [x] at z;obtain ⟨oc,z⟩:=eM z;cases z)];exact x,y,fun pos c hc=>?_⟩
  obtain ⟨c',oc,vs,t,h1,h2,h3,h4,h5⟩:=z pos c hc
  refine ⟨c',oc,vs,t,h1,?_,?_,h4,h5⟩
  ·rw [cX (fun z=>by rw [h2] at z;exact hq (MS h4 h5 z).symm)];exact h2
  ·by_cases hb:c'=P
   ·rw [hb,mC]
   ·rw [lY hb];exact h3
theorem MV {K:PySem.W.Frag} {H H2:Hp} {M M2:aF} {P:Addr} {q:Str} (rm:RelM K H M) (hP:M P=some (.tbl q)) (st:aR (j0 q H) (lC M P) H2 M2) (rm2:RelM K H2 M2) (hn:∀ b,eG q (H b)->H2 b=none) (hu:∀ b,M2 b=some (.tbl q)->b=P) :
  aR H M (nJ q H H2) (mup M2 P (.tbl q))/\BG H2 M2 (nJ q H H2) (mup M2 P (.tbl q))/\RelM K (nJ q H H2) (mup M2 P (.tbl q)):=by
 obtain ⟨un,ps,hHP,htr,hcodes⟩:=rm P _ hP
 have nP:¬ eG q (H P):=fun z=>by rw [hHP] at z;obtain ⟨oc,z⟩:=eM z;cases z
 obtain ⟨h2P,m2P⟩:=st.to (b:=P) (o:=.tbl ps) (by rw [cX nP];exact hHP) mC
 have S1:aR H M (nJ q H H2) (mup M2 P (.tbl q)):=fun b o e m=>by
  have hb:b≠P:=fun z=>by rw [z,hP] at m;cases m
  by_cases hc:eG q (H b)
  ·exact ⟨.inl (by rw [uP hc];exact e),by rw [aT hb];exact rm2.no (hn b hc)⟩
  ·obtain ⟨a1,a2⟩:=st b o (by rw [cX hc];exact e) (by rw [lY hb];exact m)
   exact ⟨by rw [dA hc];exact a1,by rw [aT hb];exact a2⟩
 have S2:BG H2 M2 (nJ q H H2) (mup M2 P (.tbl q)):=fun b o e m n1 n2=>by
  have hb:b≠P:=fun z=>by rw [z,h2P] at e;cases e;exact n2 ps rfl
  have hc:¬ eG q (H b):=fun z=>by rw [hn b z] at e;cases e
  exact ⟨by rw [dA hc];exact e,by rw [aT hb];exact m⟩
 refine ⟨S1,S2,fun a mo e=>?_⟩
 by_cases ha:a=P
 ·subst ha
  rw [aS] at e;cases e
  refine ⟨fun b hb=>?_,ps,by rw [dA nP];exact h2P,htr,fun pos c hc=>?_⟩
  ·by_cases hba:b=a
   ·exact hba
   ·rw [aT hba] at hb;exact hu b hb
  ·obtain ⟨c',oc,vs,t,h1,h2,h3,h4⟩:=hcodes pos c hc
   obtain ⟨a1,a2⟩:=S1.to h2 h3
   exact ⟨c',oc,vs,t,h1,a1,a2,h4⟩
 ·rw [aT ha] at e
  have h:=rm2 a mo e
  obtain ⟨o,ho⟩:=rm2.ex e
  have hc:¬ eG q (H a):=fun z=>by rw [hn a z] at ho;cases ho
  cases mo with
  | lst us=>obtain ⟨vs,x,y⟩:=h;exact ⟨vs,by rw [dA hc];exact x,y.stq S2⟩
  | dK us=>obtain ⟨vs,x,y⟩:=h;exact ⟨vs,by rw [dA hc];exact x,y.stq S2⟩
  | dT us=>obtain ⟨vs,x,y⟩:=h;exact ⟨vs,by rw [dA hc];exact x,y.stq S2⟩
  | dN us=>obtain ⟨vs,x,y⟩:=h;exact ⟨vs,by rw [dA hc];exact x,y.stq S2⟩
  | cap ps vs us=>exact ⟨by rw [dA hc];exact h.1,h.2.stq S2⟩
  | tbl q' =>
   obtain ⟨un',ps',x,y,z⟩:=h
   have hqq:q'≠q:=fun w=>by subst w;exact ha (hu a e)
   refine ⟨fun b hb=>un' b (by by_cases hbP:b=P;subst hbP;rw [aS] at hb;exact absurd (by cases hb;rfl) hqq;rw [aT hbP] at hb;exact hb),ps',by rw [dA hc];exact x,y,fun pos c hcc=>?_⟩
   obtain ⟨c',oc,vs,t,h1,h2,h3,h4⟩:=z pos c hcc
   have hc':¬ eG q (H c'):=fun z=>by rw [hn c' z] at h2;cases h2
   refine ⟨c',oc,vs,t,h1,by rw [dA hc'];exact h2,?_,h4⟩
   by_cases hb:c'=P
   ·rw [hb,h2P] at h2;cases h2
   ·rw [aT hb];exact h3
end U2
namespace U2
open PySem PySem.Spec PyProof.Rows L2
def Qf (n:Nat) (te:UE) (caps:SU):bF:=fun us M Q=>us.length=n/\te (us.map some++caps) M Q
structure sW where
 lam:Gx
 N:List Str
 ps:List Str
 ix:List Nat
 te:UE
def F1 (D:Dat) (base:Heap) (k:Nat) (N:List Str) (sc:Scope):Dat:={ D with base:=base,N:=N,sc:=sc,k:=k,fn:=false,cod:=.none }
structure x6 (D:Dat) (k:Nat) (L:sW):Prop where
 sc:A9 L.N L.ps L.lam.scope
 len:L.N.length=L.ps.length + L.ix.length
 ix:L.ix.map (fun i=>D.N[i]?)=(L.N.drop L.ps.length).map some
 free:∀ y∈L.lam.scope.names,y.2=.free->D.sc.names.lookup y.1=some .cell\/D.sc.names.lookup y.1=some .free
 cap:∀ x∈L.N.drop L.ps.length,D.sc.names.lookup x=some .cell\/D.sc.names.lookup x=some .free
 body:∀ base,iO base D.mg->aV (F1 D base k L.N L.lam.scope) L.lam.body L.te
 bind:∀ (q:Str) (cl:List (Str × Addr)) (pm cd ct:Value) (us:List Value),us.length=L.ps.length->bindArgs (PySem.W.kla_fn "<lambda>" q L.lam.params L.lam.body L.lam.scope cl pm cd ct) ⟨us,[]⟩=pure (L.ps.zip us)
def tE:U->Prop
 | .tup _=>False
 | .lst _=>False
 | .dic _ _ _=>False
 | _=>True
theorem aJ.flat {K:PySem.W.Frag} {H H1:Hp} {M M1:aF} {u:U} {v:V} (h:tE u) (r:aJ K H M u v):aJ K H1 M1 u v:=by
 cases u <;> first | exact h.elim | simpa only [aJ] using r
def oK (L:sW) (τ:SU):SU:=L.ix.map fun i=>(τ[i]?).getD none
def oQ (L:sW) (τ:SU):bF:=Qf L.ps.length L.te (oK L τ)
def sJ (G:SU->List U->List Addr->aF->UK->Prop) (t:tS):UE:=fun τ M Q=>t τ M fun us fs M1=>G τ us fs M1 Q
theorem Ju {α:Type} {a b:α} (h:(pure a:Sem α)=pure b):a=b:=by
 have h':(Sem.pure a:Sem α)=Sem.pure b:=h
 injection h'
open Classical in
theorem J6 {D:Dat} {x:Str} {p pos:Pos} {e:Expr} {es:List Expr} {f P:Addr} {q:Str} {j k:Nat} {Ls:List sW} {sp:List (Addr × bF)->bF} {t:tS} {G:SU->List U->List Addr->aF->UK->Prop} (hm:D.mg x=some (.ref f)) (hk:PySem.W.keepIn D.K (.ref f)=true)
  (F:∀ (base:Heap) (fs:List (Addr × bF)),fs.length=Ls.length->iO base D.mg->(∀ l∈fs,d9 D.prog D.w D.K D.mg base (k + 1) l.1 l.2)->Callee D.prog D.w D.K D.mg base j x (sp fs) [])
  (hG:∀ τ us fs M1 Q,fs.length=Ls.length->G τ us fs M1 Q->M1 P=some (.tbl q)/\(∀ L∈Ls,∀ u,some u∈oK L τ->tE u) /\
   ((∀ b,lC M1 P b≠some (.tbl q))->sp (fs.zip (Ls.map fun L=>oQ L τ)) us (lC M1 P) fun u M2=>(∀ b,M2 b≠some (.tbl q))/\Q u (mup M2 P (.tbl q))))
  (hB:iO D.base D.mg) (hL:∀ L∈Ls,x6 D k L) (ha:uR D q (e :: es) (Ls.map (·.lam)) t)
  (hj:j<=D.k:=by first | exact Nat.le_refl _ | (dsimp only;omega) | omega) (hfn:D.fn=true:=by rfl) (hg:D.sc.names.lookup x=some .globalImplicit:=by rfl) (hdb:(x == ("__debug__":Str))=false:=by decide)
  (he:∀ env,starEach (e :: es) env=(false,eval e env) :: starEach es env:=by intro _;rfl) (hpl:∀ env,(backTo pos (starEach es env)).any (·.1)=false:=by intro _;rfl):aV D (.Call (.Name x p) (e :: es) [] pos) (sJ G t):=by
 refine ⟨fun σ H Q=>∃ τ M Q',dU D.K H M σ τ/\RelM D.K H M/\sJ G t τ M Q'/\cW D.K H M Q' Q,fun X h=>?_,fun σ τ H M Q' rs rm ht Q c=>⟨τ,M,Q',rs,rm,ht,c⟩⟩
 intro pins s σ H Q I ⟨τ,M,Q',rs,rm,ht,cont⟩
 refine wpAny_Call_Name_kw (zB I (by show X.env.scope.names.lookup x=_;rw [h.sc];exact hg) (by rw [h.mg];exact hm) ?_ hdb)
 refine PySem.W.callWith_K (h₀:=X.base) I.ok.mod.kin (by rw [h.K];exact hk) (bG (ha X h pos pins s σ H τ M _ I rs rm ht) fun us s1 ⟨ws,vs,fs,M1,H1,I1,rv,st1,rm1,rus,pl,q0⟩=>⟨I1.kIn,?_⟩) (he _) (hpl _)
 have hfl:fs.length=Ls.length:=by have:=Paired.length pl;rw [List.length_map] at this;exact this.symm
 obtain ⟨hMP,hflat,q1⟩:=hG _ _ _ _ _ hfl q0
 obtain ⟨huniq,_⟩:=rm1 P _ hMP
 have hno:∀ b,lC M1 P b≠some (.tbl q):=fun b z=>by
  by_cases hb:b=P
  ·rw [hb,mC] at z;cases z
  ·rw [lY hb] at z;exact hb (huniq b z)
 obtain ⟨sq,rmH⟩:=L9 rm1 hMP
 let Hh:Hp:=fun b=>if b∈i9 X.stack then some (.own 0) else j0 q H1 b
 have hHh:∀ b,b ∉ i9 X.stack->j0 q H1 b=none->Hh b=none:=fun b h1 h2=>by show (if b∈i9 X.stack then some (.own 0) else j0 q H1 b)=none;rw [if_neg h1];exact h2
 have hHn:∀ b,Hh b=none->b ∉ i9 X.stack/\j0 q H1 b=none:=fun b hb=>by
  have hb':(if b∈i9 X.stack then some (HO.own 0) else j0 q H1 b)=none:=hb
  by_cases hm:b∈i9 X.stack
  ·rw [if_pos hm] at hb';cases hb'
  ·rw [if_neg hm] at hb';exact ⟨hm,hb'⟩
 have nofr:∀ b o,X.base.get? b=some o->b ∉ i9 X.stack:=fun b o e hb=>by
  have:=(I1.stack.mem hb).1
  rw [e] at this;cases this
 have hid0:∀ b,H1 b=none->j0 q H1 b=none:=fun b e=>by rw [cX (by rw [e];exact xE)];exact e
 have up:∀ b o,X.base.get? b=some o->(gN s1.heap Hh).get? b=some o:=fun b o e=>pO (I1.bk b o e) (hHh b (nofr b o e) (hid0 b (I1.bs b o e).2))
 have hBm:iO (gN s1.heap Hh) D.mg:=by
  obtain ⟨bm,o,b1,b2,b3,b4,b5⟩:=hB
  rw [<- h.base] at b4
  exact ⟨bm,o,b1,b2,b3,up _ _ b4,b5⟩
 have e0:Bz X.prog X.w X.K X.mg (gN s1.heap Hh) X.A X.stack s1 (j0 q H1):=by
  have m:=I1.ok.mod
  refine ⟨I1.ok.frames,⟨m.kin.keeps up,m.glob.keeps up,let ⟨mb,a,b⟩:=m.blt;⟨mb,a.keeps up,b⟩,m.nolimit.keeps up⟩,fun b o e=>?_,Nat.le_of_eq (Ae _ _),?_,fun b hb=>hid0 b (I1.stkFree b hb),fun b o e=>?_,I1.bare⟩
  ·obtain ⟨a,b2⟩:=y0 e
   exact ⟨a,(hHn b b2).2⟩
  ·have:∀ l:List Env,(∀ b∈i9 l,b∈i9 X.stack)->s1.heap.FunFrames X.base l->s1.heap.FunFrames (gN s1.heap Hh) l:=by
    intro l
    induction l with
    | nil=>intro _ _;trivial
    | cons env rest ih =>
     intro hs ⟨hk,⟨L,o,hf,hn,ho,hd⟩,hr⟩
     refine ⟨hk,⟨L,o,hf,?_,ho,hd⟩,ih (fun b hb=>hs b (by unfold i9 at hb ⊢;rw [List.filterMap_cons,hf];exact List.mem_cons_of_mem _ hb)) hr⟩
     cases hq:(gN s1.heap Hh).get? L with
     | none=>rfl
     | some o'=>exact absurd (hs L (by unfold i9;rw [List.filterMap_cons,hf];exact List.mem_cons_self)) (hHn L (y0 hq).2).1
   exact this X.stack (fun _ hb=>hb) I1.stack
  ·obtain ⟨e1,e2⟩:=GW e
   refine (I1.hok b o e1).stay (fun _ _ _ z=>z) (fun a ea=>?_) (fun a xs ea=>?_)
   ·rw [cX (fun z=>by rw [ea] at z;obtain ⟨_,z⟩:=eM z;cases z)];exact ea
   ·rw [cX (fun z=>by rw [ea] at z;obtain ⟨_,z⟩:=eM z;cases z)];exact ea
 have one:∀ (L:sW) (fl:Addr),x6 D k L->AH X s1 H1 M1 q L.lam fl->(∀ u,some u∈oK L τ->tE u)->d9 D.prog D.w D.K D.mg (gN s1.heap Hh) (k + 1) fl (oQ L τ):=by
  intro L fl ok la hfl
  obtain ⟨cl,pm,ctv,c,oc,cvs,tk,hclos,⟨ho,hf0,hf1,hf2⟩,hc,hMc,hd,hv⟩:=la
  obtain ⟨cl',hclos',hcl,hcl2⟩:=tD (env:=X.env) (scope:=L.lam.scope) (fun y hy e=>I1.ok.has y.1 (by show X.env.scope.names.lookup _=_\/X.env.scope.names.lookup _=_;rw [h.sc];exact ok.free y hy e))
  have ecl:cl'=cl:=Ju (hclos'.symm.trans hclos)
  subst ecl
  have nst:∀ b,b≠X.env.locals->b ∉ X.fs->b ∉ i9 X.stack:=fun b n1 n2 hb=>by
   rcases List.mem_cons.mp (I1.stkSub b hb) with z | z
   ·exact n1 z
   ·exact n2 z
  have bfl:(gN s1.heap Hh).get? fl=some (PySem.W.kla_obj "<lambda>" q L.lam.params L.lam.body L.lam.scope cl' pm c ctv):=pO ho (hHh fl (nst fl hf1 hf2) (hid0 fl hf0))
  have hoc:s1.heap.get? c=some oc:=(I1.hok c _ hc).1
  have bc:(gN s1.heap Hh).get? c=some oc:=pO hoc (hHh c (fun hb=>by rw [I1.stkFree c hb] at hc;cases hc) (qK ⟨oc,cvs,tk,hc,hd,hv⟩))
  have hold:∀ y a,cl'.lookup y=some a->∀ o,s1.heap.get? a=some o->(gN s1.heap Hh).get? a=some o:=fun y a e o eo=>by
   have ec:=hcl y a e
   refine pO eo (hHh a (nst a (I1.cne y a ec) (fun hb=>?_)) (hid0 a (I1.freeC y a ec)))
   have h1:=I1.ok.cab y a (h.fn hfn y) ec
   obtain ⟨_,o',ho',_⟩:=I1.ok.funs.mem hb
   exact absurd (Heap.lt_size ho') (Nat.not_lt.mpr h1)
  have cells:∀ y a v,cl'.lookup y=some a->s1.heap.IsCell a v->(gN s1.heap Hh).IsCell a v:=fun y a v e ⟨o,ho,hd⟩=>⟨o,hold y a e o ho,hd⟩
  obtain ⟨m,hns,hloc⟩:=I1.loc
  refine ⟨PySem.W.kla_fn "<lambda>" q L.lam.params L.lam.body L.lam.scope cl' pm (.ref c) ctv,L.ps,?_,.inr ⟨_,_,bfl,rfl⟩,.all fun us hl=>ok.bind q cl' pm _ _ us hl⟩
  have capV:∃ caps:List (Option V),caps=L.ix.map (fun i=>(σ[i]?).getD none):=⟨_,rfl⟩
  obtain ⟨caps,hcaps⟩:=capV
  refine Ox (N:=L.N) (caps:=caps) bfl ⟨c,oc,cvs,tk,rfl,bc,hd,hv⟩ ok.sc (fun y z a e1 e2=>I1.ok.inj y z a (hcl y a e1) (hcl z a e2)) (fun y hy=>hcl2 y (PySem.mem_of_lookup hy)) (fun y a e=>?_) (fun jj y v e1 e2=>?_) (by rw [hcaps,List.length_map];exact ok.len) (fun vs H Q E ⟨us,M,Q',_,r,hs,_⟩=>by rw [<- r.length];exact hs.1) ?_
  ·obtain ⟨v,hv⟩:=I1.cell y a (hcl y a e)
   exact ⟨v,cells y a v e hv⟩
  ·
   rw [hcaps,List.getElem?_map] at e2
   cases hi:L.ix[jj]? with
   | none=>rw [hi] at e2;cases e2
   | some i =>
    rw [hi] at e2
    simp only [Option.map_some,Option.some.injEq] at e2
    have eN:D.N[i]?=some y:=by
     have h1:(L.ix.map fun i=>D.N[i]?)[jj]?=some (D.N[i]?):=by rw [List.getElem?_map,hi];rfl
     rw [ok.ix,List.getElem?_map,List.getElem?_drop,e1] at h1
     exact (Option.some.inj h1).symm
    have eσ:σ[i]?=some (some v):=by
     cases hz:σ[i]? with
     | none=>rw [hz] at e2;cases e2
     | some o=>rw [hz] at e2;simp only [Option.getD_some] at e2;rw [e2]
    have hmem:y∈L.N.drop L.ps.length:=List.mem_of_getElem? (i:=jj) (by rw [List.getElem?_drop];exact e1)
    have hkind:=ok.cap y hmem
    obtain ⟨u,ru,lk⟩:=hloc i y v (by rw [h.N];exact eN) eσ (by unfold DH;rw [h.sc];rcases hkind with z | z;exact .inr (.inl z);exact .inr (.inr z))
    rcases lk with ⟨k1,_⟩ | ⟨_,a,e3,e4⟩
    ·have k1':X.env.scope.names.lookup y=some .local:=k1
     rw [h.sc] at k1'
     rcases hkind with z | z <;> (rw [z] at k1';cases k1')
    ·obtain ⟨a',ea'⟩:=hcl2 y (PySem.mem_of_lookup (ok.sc.cap y hmem))
     have:a'=a:=by have:=hcl y a' ea';rw [e3] at this;cases this;rfl
     subst this
     exact ⟨a',u,ea',cells y a' _ ea' e4,ru⟩
  ·intro A outer s2 H2 vs2 Q2 E2 hr ⟨us2,M2,Q2',rm2,rus2,⟨hl2,hte⟩,c2⟩
   obtain ⟨tb,pb,sb⟩:=ok.body (gN s1.heap Hh) hBm
   refine ⟨tb,?_,?_⟩
   ·have hh:=pb (AE X.prog X.w X.K X.mg (gN s1.heap Hh) L.N q L.lam.scope fl c cl' A outer s2 H2) ⟨h.prog,h.w,h.K,h.mg,rfl,rfl,rfl,hr,rfl,rfl,(fun z=>by cases z),(fun z=>absurd rfl z),(fun z=>by cases z)⟩
    rw [h.prog,h.w,h.K,h.mg] at hh
    exact hh
   ·refine sb _ _ H2 M2 _ ?_ rm2 hte _ c2
    refine ⟨by rw [List.length_append,List.length_append,List.length_map,List.length_map,rus2.length,hcaps];unfold oK;rw [List.length_map,List.length_map],fun i u ei=>?_⟩
    have hlv:vs2.length=us2.length:=rus2.length.symm
    by_cases hi:i < us2.length
    ·rw [List.getElem?_append_left (by rw [List.length_map];exact hi),List.getElem?_map] at ei
     cases hu:us2[i]? with
     | none=>rw [hu] at ei;cases ei
     | some u' =>
      rw [hu] at ei
      simp only [Option.map_some,Option.some.injEq] at ei
      subst ei
      obtain ⟨v,hv,rv⟩:=rus2.get hu
      exact ⟨v,by rw [List.getElem?_append_left (by rw [List.length_map,hlv];exact hi),List.getElem?_map,hv];rfl,rv⟩
    ·rw [List.getElem?_append_right (by rw [List.length_map];omega),List.length_map] at ei
     have hin:some u∈oK L τ:=List.mem_of_getElem? ei
     have hf:=hfl u hin
     unfold oK at ei
     rw [List.getElem?_map] at ei
     cases hj:L.ix[i - us2.length]? with
     | none=>rw [hj] at ei;cases ei
     | some i' =>
      rw [hj] at ei
      simp only [Option.map_some,Option.some.injEq] at ei
      have eτ:τ[i']?=some (some u):=by
       cases hz:τ[i']? with
       | none=>rw [hz] at ei;cases ei
       | some o=>rw [hz] at ei;simp only [Option.getD_some] at ei;rw [ei]
      obtain ⟨v,hv,rv⟩:=rs.2 i' u eτ
      refine ⟨v,?_,aJ.flat hf rv⟩
      rw [List.getElem?_append_right (by rw [List.length_map,hlv];omega),List.length_map,hlv,hcaps,List.getElem?_map,hj]
      simp only [Option.map_some,hv,Option.getD_some]
 have lams:∀ l∈fs.zip (Ls.map fun L=>oQ L τ),d9 D.prog D.w D.K D.mg (gN s1.heap Hh) (k + 1) l.1 l.2:=by
  have:∀ (Ls:List sW) (fs:List Addr),(∀ L∈Ls,x6 D k L)->(∀ L∈Ls,∀ u,some u∈oK L τ->tE u)->Paired (AH X s1 H1 M1 q) (Ls.map (·.lam)) fs->∀ l∈fs.zip (Ls.map fun L=>oQ L τ),d9 D.prog D.w D.K D.mg (gN s1.heap Hh) (k + 1) l.1 l.2:=by
   intro Ls
   induction Ls with
   | nil=>intro fs _ _ p l hl;simp at hl
   | cons L Ls ih =>
    intro fs ok fl p l hl
    rw [List.map_cons] at p
    cases p with
    | cons h1 h2 =>
     rw [List.map_cons,List.zip_cons_cons] at hl
     rcases List.mem_cons.mp hl with rfl | hl
     ·exact one L _ (ok L List.mem_cons_self) h1 (fl L List.mem_cons_self)
     ·exact ih _ (fun L hL=>ok L (List.mem_cons_of_mem _ hL)) (fun L hL=>fl L (List.mem_cons_of_mem _ hL)) h2 l hl
  exact this Ls fs hL hflat pl
 obtain ⟨f',fd,ps,dvs,ds,FF,hm',_,hb',hvd,hrd⟩:=(F _ _ (by rw [List.length_zip,List.length_map,hfl];exact Nat.min_self _) hBm lams).ex
 rw [hm] at hm';cases hm'
 have edv:dvs=[]:=(hrd (fun _=>none) (fun _=>none)).inv_nil
 subst edv
 cases hvd
 have FF':iZ X.prog X.w X.K X.mg (gN s1.heap Hh) m5 j f fd ps (fE D.K (sp (fs.zip (Ls.map fun L=>oQ L τ)))):=by rw [h.prog,h.w,h.K,h.mg];exact FF
 have hsp:fE D.K (sp (fs.zip (Ls.map fun L=>oQ L τ))) vs (j0 q H1) (fun v H2=>(∀ b,eG q (H1 b)->H2 b=none)->Q v (nJ q H1 H2)) E0:=by
  refine ⟨ws,lC M1 P,_,rmH,rus.stq sq,q1 hno,fun u v M2 H2 st2 rm2 ru2 ⟨hn2,q2⟩ hcn=>?_⟩
  obtain ⟨S1,S2,rm3⟩:=MV rm1 hMP st2 rm2 hcn (fun b z=>absurd z (hn2 b))
  exact cont u v _ _ (st1.trans S1) rm3 (ru2.stq S2) q2
 have hl:us.length=ps.length:=by rw [<- rv.length];exact FF'.len _ _ _ _ hsp
 have hbK:Binds X.K fd ps []:=by rw [h.K];exact hb'
 have hbs:=hbK s1 us I1.kIn (by rw [List.append_nil];exact hl)
 rw [List.append_nil] at hbs
 refine wpAny_call (codeAny_mono (FF'.run X.A X.stack s1 (j0 q H1) ⟨us,[]⟩ us vs _ E0 (h.room.mono hj) e0 hbs rv hsp) fun r s' hq=>?_)
 cases r with
 | error e=>exact hq.elim
 | ok fl =>
  cases fl with
  | next=>exact False.elim hq
  | brk=>exact False.elim hq
  | cont=>exact False.elim hq
  | ret u =>
   obtain ⟨v,H2,os,bare,un,hok2,rvu,q2⟩:=hq
   have cold:∀ b,eG q (H1 b)->∃ o,s1.heap.get? b=some o:=fun b ⟨oc,_,_,e,_⟩=>⟨oc,(I1.hok b _ e).1⟩
   have hcn:∀ b,eG q (H1 b)->H2 b=none:=fun b hb=>by
    obtain ⟨o,ho⟩:=cold b hb
    exact un.free b o ho (qK hb) (by simp)
   have nc:∀ {b o},H1 b=some o->(∀ oc,o≠.frz oc (.own 0))->¬ eG q (H1 b):=fun {b o} e n z=>by rw [e] at z;obtain ⟨oc,z⟩:=eM z;exact n oc z
   have un':Un (i9 X.stack) [] H1 (nJ q H1 H2) s1.heap s'.heap:=by
    refine ⟨fun b o e n a1 a2=>un.keep b o e (hid0 b n) a1 a2,fun b o e n a1 a2=>un.slot b o e (hid0 b n) a1 a2,fun b o e n a=>?_,fun b o e a=>un.there b o e a,fun b xs e=>?_,fun b o u e=>?_,fun b qs e=>?_⟩
    ·rw [dA (by rw [n];exact xE)];exact un.free b o e (hid0 b n) a
    ·have hc:=nc e (by simp)
     rw [dA hc];exact un.tups b xs (by rw [cX hc];exact e)
    ·by_cases hc:eG q (H1 b)
     ·rw [uP hc];exact e
     ·rw [dA hc];exact un.frzs b o u (by rw [cX hc];exact e)
    ·have hc:=nc e (by simp)
     rw [dA hc];exact un.tbls b qs (by rw [cX hc];exact e)
   have hok':gJ X.prog X.w (nJ q H1 H2) s'.heap:=by
    intro b o e
    by_cases hc:eG q (H1 b)
    ·rw [uP hc] at e
     obtain ⟨oc,vs',t',e',_⟩:=hc
     rw [e] at e';cases e'
     have hb:=(I1.hok b _ e).1
     have hk':=un.keep b oc hb (qK ⟨oc,vs',t',e,by assumption⟩) (fun hb=>by rw [I1.stkFree b hb] at e;cases e) (by simp)
     exact ⟨hk',_,hk'⟩
    ·rw [dA hc] at e
     refine (hok2 b o e).stay (fun _ _ _ z=>z) (fun a ea=>?_) (fun a xs ea=>?_)
     ·rw [dA (fun z=>by rw [hcn a z] at ea;cases ea)];exact ea
     ·rw [dA (fun z=>by rw [hcn a z] at ea;cases ea)];exact ea
   have I2:L2.Inv X pins σ (nJ q H1 H2) s':=Inv.call' (ch:=[]) I1 os un' hok' bare (fun b z=>absurd z (by simp))
   exact ⟨v,_,I2,rvu,q2 hcn⟩
def RC (P:Addr) (q:Str) (L:sW) (sp:Addr->bF->bF):SU->List U->List Addr->aF->UK->Prop:=fun τ us fs M1 Q=>match fs with
 | [fl]=>M1 P=some (.tbl q)/\(∀ u,some u∈oK L τ->tE u)/\((∀ b,lC M1 P b≠some (.tbl q))->sp fl (oQ L τ) us (lC M1 P) fun u M2=>(∀ b,M2 b≠some (.tbl q))/\Q u (mup M2 P (.tbl q)))
 | _=>False
def K0 (P:Addr) (q:Str) (L L':sW) (sp:Addr->bF->Addr->bF->bF):SU->List U->List Addr->aF->UK->Prop:=fun τ us fs M1 Q=>match fs with
 | [fl,fl']=>M1 P=some (.tbl q)/\(∀ u,some u∈oK L τ->tE u)/\(∀ u,some u∈oK L' τ->tE u)/\((∀ b,lC M1 P b≠some (.tbl q))->sp fl (oQ L τ) fl' (oQ L' τ) us (lC M1 P) fun u M2=>(∀ b,M2 b≠some (.tbl q))/\Q u (mup M2 P (.tbl q)))
 | _=>False
def RF (sp:Addr->bF->Addr->bF->bF):List (Addr × bF)->bF
 | [(fl,s),(fl',s')]=>sp fl s fl' s'
 | _=>fun _ _ _=>False
theorem Ii {D:Dat} {x:Str} {p pos:Pos} {e:Expr} {es:List Expr} {f P:Addr} {q:Str} {j:Nat} (k:Nat) (L L':sW) {sp:Addr->bF->Addr->bF->bF} {t:tS} (hm:D.mg x=some (.ref f)) (hk:PySem.W.keepIn D.K (.ref f)=true)
  (F:∀ (base:Heap) (fl:Addr) (s:bF) (fl':Addr) (s':bF),iO base D.mg->d9 D.prog D.w D.K D.mg base (k + 1) fl s->d9 D.prog D.w D.K D.mg base (k + 1) fl' s'->Callee D.prog D.w D.K D.mg base j x (sp fl s fl' s') []) (hB:iO D.base D.mg) (hL:x6 D k L) (hL':x6 D k L') (ha:uR D q (e :: es) [L.lam,L'.lam] t)
  (hj:j<=D.k:=by first | exact Nat.le_refl _ | (dsimp only;omega) | omega) (hfn:D.fn=true:=by rfl) (hg:D.sc.names.lookup x=some .globalImplicit:=by rfl) (hdb:(x == ("__debug__":Str))=false:=by decide)
  (he:∀ env,starEach (e :: es) env=(false,eval e env) :: starEach es env:=by intro _;rfl) (hpl:∀ env,(backTo pos (starEach es env)).any (·.1)=false:=by intro _;rfl):aV D (.Call (.Name x p) (e :: es) [] pos) (sJ (K0 P q L L' sp) t):=by
 refine J6 (Ls:=[L,L']) (sp:=RF sp) (P:=P) (q:=q) (j:=j) (k:=k) hm hk (fun base fs hl hb hf=>?_) (fun τ us fs M1 Q hl h=>?_) hB (fun L'' h'=>?_) ha hj hfn hg hdb he hpl
 ·match fs,hl with
  | [(fl,s),(fl',s')],_=>exact F base fl s fl' s' hb (hf (fl,s) List.mem_cons_self) (hf (fl',s') (List.mem_cons_of_mem _ List.mem_cons_self))
 ·match fs,hl,h with
  | [fl,fl'],_,h =>
   obtain ⟨h1,h2,h2',h3⟩:=h
   refine ⟨h1,fun L'' h'=>?_,h3⟩
   rcases List.mem_cons.mp h' with z | z
   ·subst z;exact h2
   ·cases List.mem_singleton.mp z;exact h2'
 ·rcases List.mem_cons.mp h' with z | z
  ·subst z;exact hL
  ·cases List.mem_singleton.mp z;exact hL'
end U2
namespace U2
open PySem PySem.Spec PyProof.Rows L2
section
variable {P:Program} {w:World} {K:PySem.W.Frag} {mg:Str->Option Value} {base:Heap}
theorem Et {x:Str} {st:Stmt} {f c0:Addr} {fd:FuncData} {N ps:List Str} {k:Nat} {sp:bF} {t:US} (F:cL K x x st f fd) (hfd:fd.code=.ref c0) (hm:mg x=some (.ref f)) (S:aX N ps (aG st))
  (bind:∀ (kV doc pm:Value) (an:Option Addr) (cdv ct:Value) (us:List Value),us.length=ps.length->bindArgs (PySem.W.fnOf x x (aW st) (aU st) (aG st) .none kV doc pm an cdv ct) ⟨us,[]⟩=pure (ps.zip us))
  (len:∀ us M Q,sp us M Q->us.length=ps.length)
  (h:oC ⟨P,w,K,mg,base,N,aG st,k,true,.ref c0,x++".<locals>."⟩ (aU st) t)
  (q:∀ us M Q,sp us M Q->t { nx:=fun _ M'=>iP Q .non M',rt:=iP Q } (fG N us) M):Callee P w K mg base (k + 1) x sp []:=by
 obtain ⟨t0,h1,h2⟩:=h
 have hb:=F.binds bind
 have kp:=F.kp
 obtain ⟨oc,od,kV,doc,pm,an,cdv,ct,osl,rfl,lk,hcd⟩:=F.ex
 have hfd':cdv=.ref c0:=hfd
 subst hfd'
 refine ⟨f,_,ps,[],[],Lh lk hcd S (fun vs H Q E ⟨us,M,Q',_,r,hs,_⟩=>by rw [<- r.length];exact len us M Q' hs) (fun A outer s H vs Q E hr ⟨us,M,Q',rm,r,hs,c⟩=>?_),hm,kp,hb,.nil,fun H M=>.nil⟩
 refine ⟨t0,pF.nox (h1 _ ⟨rfl,rfl,rfl,rfl,rfl,rfl,rfl,hr,rfl,rfl,fun _ _=>rfl,fun _=>⟨rfl,rfl⟩,fun _=>⟨rfl,rfl,rfl⟩⟩),?_⟩
 refine h2 _ (fG N us) H M _ (uG r) rm (q us M Q' hs) _ ⟨fun σ τ H1 M1 s1 rm1 rs1 q1=>?_,fun u v H1 M1 s1 rm1 ru q1=>iP.ok c s1 rm1 ru q1,fun _ _ _ _ _ _ _ z=>z.elim,fun _ _ _ _ _ _ _ z=>z.elim⟩
 exact iP.ok c s1 rm1 m6 q1
end
def F4 (ts:List Addr) (H:Hp):Prop:=∀ b,H b=none\/(∃ o xs,H b=some (.frz o (.lst xs)))\/(b∈ts/\H b=some (.tbl #[]))
theorem Hx {P:Program} {w:World} {K:PySem.W.Frag} {mg mb:Str->Option Value} {k:Nat} {fa a:Addr} {fd:FuncData} {x:Str} {sp:Sp} {s₁:Shared} {vs:List Value} {ns:List Int} {ts:List Addr}
  (KX:K.In s₁.heap) (hns:s₁.heap.Ns mainGlobals mg) (hb:s₁.heap.Ns builtinsNs mb) (hbb:∀ x:Str,x≠"__name__"->mb x=bootBuiltins x) (hlim:s₁.heap.NoLimit) (hg:s₁.gens=#[])
  (hB:iO s₁.heap mg) (hT:∀ p∈ts,s₁.heap.get? p=some (PySem.W.tabObj #[])/\K.lookup p=none/\isCodeTable s₁.heap p)
  (ha:s₁.heap.get? a=some { cls:=.type "list",data:=.seq vs.toArray }) (hi:IntsAre vs ns) (hl:ns.length<=sizeLine) (hr:fT k callerA)
  (F:∀ base:Heap,K.In base->base.Ns mainGlobals mg->iO base mg->iZ P w K mg base m5 k fa fd [x] sp) (hbind:∀ (s:Shared) (u:Value),BindsTo s fd ⟨[u],[]⟩ [(x,u)])
  (hsp:∀ H:Hp,F4 ts H->eO K H a (ns.map V.int)->(∀ p∈ts,H p=some (.tbl #[]))->sp [.ref a] H (fun v _=>v=.bl true) fun _ _ _=>False) :
  codeAny (model P w) callerA (.call (.ref fa) ⟨[.ref a],[]⟩) (fun r s'=>r=.ok (.ret (.bool true))/\OldK s₁.heap s'.heap/\s'.os=s₁.os/\AllBare s'.gens) s₁:=by
 have rv:=zL hi
 have lenV:=hi.length
 have haT:a ∉ ts:=fun z=>by
  have:=(hT a z).1
  rw [ha] at this;cases this
 have core:∀ H:Hp,F4 ts H->eO K H a (ns.map V.int)->(∀ p∈ts,H p=some (.tbl #[]))->gJ P w H s₁.heap->(∀ b,H b≠none->b=a\/b∈ts)->(H a≠none->K.lookup a=none) ->
   codeAny (model P w) callerA (.call (.ref fa) ⟨[.ref a],[]⟩) (fun r s'=>r=.ok (.ret (.bool true))/\OldK s₁.heap s'.heap/\s'.os=s₁.os/\AllBare s'.gens) s₁:=by
  intro H hO hS hTb hok hA hK
  have base_of:∀ {b:Addr} {o:Obj},s₁.heap.get? b=some o->H b=none->(gN s₁.heap H).get? b=some o:=fun e n=>pO e n
  have noD:∀ {b:Addr} {o:Obj},s₁.heap.get? b=some o->(∀ xs n,o.data≠.seq xs n)->(∀ vs,o.data≠.fields vs)->H b=none:=fun {b o} e d1 d2=>by
   cases q:H b with
   | none=>rfl
   | some u =>
    rcases hA b (by rw [q];simp) with e' | e'
    ·subst e'
     rw [ha] at e;cases e
     exact absurd rfl (d1 _ _)
    ·rw [(hT b e').1] at e;cases e
     exact absurd rfl (d2 _)
  have noA:∀ {b:Addr} {o:Obj} {es:Array DictEntry} {ep:Nat},s₁.heap.get? b=some o->o.data=.dict es ep->H b=none:=fun {b o es ep} e d=>noD e (fun xs n z=>by rw [d] at z;cases z) (fun vs z=>by rw [d] at z;cases z)
  have nsK:∀ {b:Addr} {m:Str->Option Value},s₁.heap.Ns b m->(gN s₁.heap H).Ns b m:=fun {b m} ⟨o,es,ep,e,d,r⟩=>⟨o,es,ep,base_of e (noA e d),d,r⟩
  have hKb:K.In (gN s₁.heap H):=fun b o e=>base_of (KX b o e) (by
   cases q:H b with
   | none=>rfl
   | some u =>
    rcases hA b (by rw [q];simp) with e' | e'
    ·subst e'
     rw [hK (by rw [q];simp)] at e;cases e
    ·rw [(hT b e').2.1] at e;cases e)
  have hBb:iO (gN s₁.heap H) mg:=by
   obtain ⟨bm,o,b1,b2,b3,b4,b5,b6,b7⟩:=hB
   exact ⟨bm,o,b1,b2,b3,base_of b4 (noD b4 (fun xs n z=>by rw [b7] at z;cases z) (fun vs z=>by rw [b7] at z;cases z)),b5,b6,b7⟩
  have hM:Mod K mg (gN s₁.heap H):=⟨hKb,nsK hns,⟨mb,nsK hb,hbb⟩,let ⟨mc,h1,h2⟩:=hlim;⟨mc,nsK h1,h2⟩⟩
  have e0:Bz P w K mg (gN s₁.heap H) callerA [] s₁ H:=⟨rfl,hM,fun b o e=>y0 e,Nat.le_of_eq (Ae _ _),trivial,fun b hb=>absurd (show b∈([]:List Addr) from hb) (by simp),hok,.of_eq hg⟩
  refine codeAny_mono ((F _ hKb (nsK hns) hBb).run callerA [] s₁ H ⟨[.ref a],[]⟩ [.ref a] [.ref a] _ _ hr e0 (hbind s₁ (.ref a)) (.cons rfl .nil) (hsp H hO hS hTb)) fun r s' h=>?_
  cases r with
  | error e=>exact h.elim
  | ok fl =>
   cases fl with
   | next=>exact False.elim h
   | brk=>exact False.elim h
   | cont=>exact False.elim h
   | ret u =>
    obtain ⟨v,H',os,bare,un,hok',r',q⟩:=h
    have q':v=.bl true:=q
    subst q'
    obtain rfl:u=Value.bool true:=r'
    have kept:∀ b o,s₁.heap.get? b=some o->b ∉ ts->s'.heap.get? b=some o:=fun b o e hbt=>by
     cases q:H b with
     | none=>exact un.keep b o e q (by intro z;exact absurd (show b∈([]:List Addr) from z) (by simp)) (by simp)
     | some u =>
      rcases hO b with z | ⟨ob,xs,z⟩ | ⟨z,_⟩
      ·rw [q] at z;cases z
      ·have z2:=un.frzs b ob _ z
       obtain ⟨e1,_⟩:=hok b _ z
       obtain ⟨e2,_⟩:=hok' b _ z2
       rw [e] at e1;cases e1
       exact e2
      ·exact absurd z hbt
    refine ⟨rfl,⟨fun b o e=>?_,fun b o e=>?_⟩,os,bare⟩
    ·by_cases hbt:b∈ts
     ·obtain ⟨h1,_,h3⟩:=hT b hbt
      rw [h1] at e;cases e
      obtain ⟨more,hm⟩:=un.tbls b _ (hTb b hbt)
      have:=hok' b _ hm
      exact .inr (.inl ⟨h3,rfl,#[],more,rfl,this⟩)
     ·exact .inl (kept b o e hbt)
    ·by_cases hbt:b∈ts
     ·obtain ⟨more,hm⟩:=un.tbls b _ (hTb b hbt)
      exact ⟨_,hok' b _ hm⟩
     ·exact ⟨o,kept b o e hbt⟩
 have tOk:∀ (H:Hp) b,b∈ts->bR P w H s₁.heap b (.tbl #[]):=fun H b hb=>(hT b hb).1
 open Classical in
 cases hk:K.lookup a with
 | some o =>
  have e:=KX a o hk
  rw [ha] at e
  cases e
  refine core (fun b=>if b∈ts then some (.tbl #[]) else none) (fun b=>?_) (.inr ⟨_,vs.toArray,_,hk,rfl,rfl,rfl,by rw [List.size_toArray,lenV];exact hl,by simpa using rv⟩) (fun p hp=>if_pos hp) (fun b u z=>?_) (fun b z=>?_) (fun z=>absurd (if_neg haT) z)
  ·by_cases hb:b∈ts
   ·exact .inr (.inr ⟨hb,if_pos hb⟩)
   ·exact .inl (if_neg hb)
  ·by_cases hb:b∈ts
   ·have z':=(if_pos hb).symm.trans z
    cases z'
    exact tOk _ b hb
   ·have z':=(if_neg hb).symm.trans z
    cases z'
  ·by_cases hb:b∈ts
   ·exact .inr hb
   ·exact absurd (if_neg hb) z
 | none =>
  refine core (fun b=>if b=a then some (.frz { cls:=.type "list",data:=.seq vs.toArray } (.lst (ns.map V.int))) else if b∈ts then some (.tbl #[]) else none) (fun b=>?_) (.inl (.inr ⟨{ cls:=.type "list",data:=.seq vs.toArray },if_pos rfl⟩)) (fun p hp=>?_) (fun b u z=>?_) (fun b z=>?_) fun _=>hk
  ·by_cases hb:b=a
   ·exact .inr (.inl ⟨_,_,if_pos hb⟩)
   ·by_cases hbt:b∈ts
    ·exact .inr (.inr ⟨hbt,(if_neg hb).trans (if_pos hbt)⟩)
    ·exact .inl ((if_neg hb).trans (if_neg hbt))
  ·exact (if_neg (fun z:p=a=>haT (z ▸ hp))).trans (if_pos hp)
  ·by_cases hb:b=a
   ·have z':=(if_pos hb).symm.trans z
    cases z'
    subst hb
    exact ⟨ha,by rw [List.length_map];exact hl,vs,_,rv,ha⟩
   ·by_cases hbt:b∈ts
    ·have z':=((if_neg hb).trans (if_pos hbt)).symm.trans z
     cases z'
     exact tOk _ b hbt
    ·have z':=((if_neg hb).trans (if_neg hbt)).symm.trans z
     cases z'
  ·by_cases hb:b=a
   ·exact .inl hb
   ·by_cases hbt:b∈ts
    ·exact .inr hbt
    ·exact absurd ((if_neg hb).trans (if_neg hbt)) z
theorem Kx {l:PySem.W.OpenLaw} {n k:Nat} {q:Program} {loose:List Str} {XP:(Str->Option Value)->Heap->Prop} {YP:World->Heap->Prop} {d:DefRec} {K:Params->PySem.W.Frag} {sp:World->Sp} {x:Str} {ts:List Addr}
  (hn:l.most=some n) (hn2:n<=sizeLine) (hdf:d.params.defaults=[]) (hr:fT k callerA)
  (hY:∀ (w:World) (h:Heap),YP w h->(K w.params).In h/\∀ P∈ts,h.get? P=some (PySem.W.tabObj #[]))
  (hTK:∀ (w:World),∀ P∈ts,(K w.params).lookup P=none/\∃ c,PySem.W.codeHdIn (K w.params) c P=true)
  (F:∀ (w:World) (mg:Str->Option Value) (fa:Addr) (h:Heap),(K w.params).In h->h.Ns mainGlobals mg->mg d.name=some (.ref fa) ->
   ∃ fd:FuncData,(∀ (s:Shared) (u:Value),BindsTo s fd ⟨[u],[]⟩ [(x,u)]) /\
    ∀ base:Heap,(K w.params).In base->base.Ns mainGlobals mg->iO base mg->iZ l.prog w (K w.params) mg base m5 k fa fd [x] (sp w))
  (hsp:∀ (w:World) (H:Hp) (a:Addr) (ns:List Int),ns.length<=n->F4 ts H->eO (K w.params) H a (ns.map V.int)->(∀ p∈ts,H p=some (.tbl #[]))->sp w [.ref a] H (fun v _=>v=.bl true) fun _ _ _=>False) :
  PySem.W.WalkO q loose XP YP l.row.toRowW d [] (fun f vs=>PySem.call f vs):=by
 refine Att.attach_call hn hdf fun w s₀ s₁ mg mb fa o pm cd doc a vs ns G Y ho hd hcd hmg hobj hints hlen hg=>?_
 obtain ⟨KX,TX⟩:=hY w _ Y
 obtain ⟨fd,hb,hF⟩:=F w mg fa _ KX G.T.g hmg
 have hB:iO s₁.heap mg:=by
  obtain ⟨bm,ob,b1,b2,b3,b4,b5,b6⟩:=G.T.bmain
  refine ⟨bm,ob,b1,b2,fun z=>?_,b3,b4,b5,b6⟩
  obtain ⟨o,es,ep,e,hd,_⟩:=G.T.g
  rw [z,e] at b3;cases b3;rw [hd] at b6;cases b6
 exact Hx KX G.T.g G.T.b G.T.builtins G.T.nolimit hg hB (fun p hp=>⟨TX p hp,(hTK w p hp).1,let ⟨c,hc⟩:=(hTK w p hp).2;((PySem.W.codeHd_of_K KX hc).tab (TX p hp)).isCodeTable⟩) hobj hints (Nat.le_trans hlen hn2) hr hF hb (fun H hO hS hT=>hsp w H a ns hlen hO hS hT)
end U2
namespace U2
open PySem PySem.Spec PyProof.Rows L2
section
variable {D:Dat} {x:Str} {p pos:Pos} {e:Expr} {es:List Expr} {f P:Addr} {q:Str} {j:Nat}
theorem LL (k:Nat) (N ps:List Str) (ix:List Nat) (N' ps':List Str) (ix':List Nat) {params params':Arguments} {body body':Expr} {scope scope':Scope} {te te':UE} {sp:Addr->bF->Addr->bF->bF} {t:tS} (hm:D.mg x=some (.ref f)) (hk:PySem.W.keepIn D.K (.ref f)=true)
  (F:∀ (base:Heap) (fl:Addr) (s:bF) (fl':Addr) (s':bF),iO base D.mg->d9 D.prog D.w D.K D.mg base (k + 1) fl s->d9 D.prog D.w D.K D.mg base (k + 1) fl' s'->Callee D.prog D.w D.K D.mg base j x (sp fl s fl' s') []) (hB:iO D.base D.mg) (ha:uR D q (e :: es) [⟨params,body,scope⟩,⟨params',body',scope'⟩] t) (hb:∀ base,iO base D.mg->aV (F1 D base k N scope) body te) (hb':∀ base,iO base D.mg->aV (F1 D base k N' scope') body' te')
  (s1:scope.kind=.function:=by rfl) (s2:scope.isCoroutine=false:=by rfl) (s3:scope.isGenerator=false:=by rfl) (s4:N.Nodup:=by decide +kernel) (s5:N.take ps.length=ps:=by rfl) (s6:∀ x∈ps,scope.names.lookup x=some .local:=by decide +kernel) (s7:∀ y∈scope.names,y.2≠.cell:=by decide +kernel) (s8:∀ x∈N.drop ps.length,scope.names.lookup x=some .free:=by decide +kernel)
  (s9:N.length=ps.length + ix.length:=by rfl) (s10:ix.map (fun i=>D.N[i]?)=(N.drop ps.length).map some:=by rfl) (s11:∀ y∈scope.names,y.2=.free->D.sc.names.lookup y.1=some .cell\/D.sc.names.lookup y.1=some .free:=by first | decide +kernel | (dsimp only;decide +kernel)) (s12:∀ x∈N.drop ps.length,D.sc.names.lookup x=some .cell\/D.sc.names.lookup x=some .free:=by first | decide +kernel | (dsimp only;decide +kernel))
  (s13:∀ (q:Str) (cl:List (Str × Addr)) (pm cd ct:Value) (us:List Value),us.length=ps.length->bindArgs (PySem.W.kla_fn "<lambda>" q params body scope cl pm cd ct) ⟨us,[]⟩=pure (ps.zip us):=by exact fun _ _ _ _ _ us hl=>(match us,hl with | [_],_=>rfl))
  (r1:scope'.kind=.function:=by rfl) (r2:scope'.isCoroutine=false:=by rfl) (r3:scope'.isGenerator=false:=by rfl) (r4:N'.Nodup:=by decide +kernel) (r5:N'.take ps'.length=ps':=by rfl) (r6:∀ x∈ps',scope'.names.lookup x=some .local:=by decide +kernel) (r7:∀ y∈scope'.names,y.2≠.cell:=by decide +kernel) (r8:∀ x∈N'.drop ps'.length,scope'.names.lookup x=some .free:=by decide +kernel)
  (r9:N'.length=ps'.length + ix'.length:=by rfl) (r10:ix'.map (fun i=>D.N[i]?)=(N'.drop ps'.length).map some:=by rfl) (r11:∀ y∈scope'.names,y.2=.free->D.sc.names.lookup y.1=some .cell\/D.sc.names.lookup y.1=some .free:=by first | decide +kernel | (dsimp only;decide +kernel)) (r12:∀ x∈N'.drop ps'.length,D.sc.names.lookup x=some .cell\/D.sc.names.lookup x=some .free:=by first | decide +kernel | (dsimp only;decide +kernel))
  (r13:∀ (q:Str) (cl:List (Str × Addr)) (pm cd ct:Value) (us:List Value),us.length=ps'.length->bindArgs (PySem.W.kla_fn "<lambda>" q params' body' scope' cl pm cd ct) ⟨us,[]⟩=pure (ps'.zip us):=by exact fun _ _ _ _ _ us hl=>(match us,hl with | [_,_],_=>rfl))
  (hj:j<=D.k:=by first | exact Nat.le_refl _ | (dsimp only;omega) | omega) (hfn:D.fn=true:=by rfl) (hg:D.sc.names.lookup x=some .globalImplicit:=by rfl) (hdb:(x == ("__debug__":Str))=false:=by decide)
  (he:∀ env,starEach (e :: es) env=(false,eval e env) :: starEach es env:=by intro _;rfl) (hpl:∀ env,(backTo pos (starEach es env)).any (·.1)=false:=by intro _;rfl):aV D (.Call (.Name x p) (e :: es) [] pos) (sJ (K0 P q ⟨⟨params,body,scope⟩,N,ps,ix,te⟩ ⟨⟨params',body',scope'⟩,N',ps',ix',te'⟩ sp) t) :=
 Ii k ⟨⟨params,body,scope⟩,N,ps,ix,te⟩ ⟨⟨params',body',scope'⟩,N',ps',ix',te'⟩ hm hk F hB ⟨⟨s1,s2,s3,s4,s5,s6,s7,s8⟩,s9,s10,s11,s12,hb,s13⟩ ⟨⟨r1,r2,r3,r4,r5,r6,r7,r8⟩,r9,r10,r11,r12,hb',r13⟩ ha hj hfn hg hdb he hpl
end
end U2
namespace U2
open PySem PySem.Spec PyProof.Rows L2
section
variable {D:Dat} {x:Str} {p pos:Pos} {e:Expr} {es:List Expr} {f P:Addr} {q:Str} {j:Nat}
end
end U2
namespace L2
open PySem PySem.Spec PyProof.Rows PySem.F
def kK (h:Heap) (d:Addr) (es:Array DictEntry) (ep:Nat):Prop:=∃ o,h.get? d=some o/\o.ExactDict/\o.data=.dict es ep
theorem kK.ty {s:Shared} {d:Addr} {es:Array DictEntry} {ep:Nat} (r:kK s.heap d es ep):s.TypeIs (.ref d) "dict":=let ⟨o,e,c,_⟩:=r;⟨o,e,c.1⟩
theorem kK.at {h h':Heap} {d:Addr} {es:Array DictEntry} {ep:Nat} (r:kK h d es ep) (k:∀ o,h.get? d=some o->h'.get? d=some o):kK h' d es ep:=let ⟨o,e,c⟩:=r;⟨o,k o e,c⟩
theorem kK.lt {h:Heap} {d:Addr} {es:Array DictEntry} {ep:Nat} (r:kK h d es ep):d < h.objs.size:=let ⟨_,e,_⟩:=r;Heap.lt_size e
section
variable {prog:Program} {w:World} {A:Around} {E:Value->Shared->Prop} {s:Shared} {d it vw:Addr} {es:Array DictEntry} {ep i:Nat} {e:DictEntry}
theorem J9 {Q:Value->Shared->Prop} (lo:(d == sysModules)=false) (r:kK s.heap d es ep)
  (q:Q (.ref s.heap.objs.size) { s with heap:=s.heap.push { cls:=.type "dict_keyiterator",data:=.fields #[.ref d,.int 0 0,.int es.size 0,.int ep 0] } }):wpAny (model prog w) A (pyIter (.ref d)) Q E s:=by
 obtain ⟨o,g,c,dd⟩:=id r
 refine wpAny_pyIter_slot r.ty slot_dict_iter (wpAny_call_entry slot_dict_iter r.ty entry_dict_iter ?_ (args_dict_iter_1 _))
 unfold Builtin.«dict.__iter__»;refine wpAny_bind ?_
 unfold Builtin.Dict.dictSlotNone;refine wpAny_bind (wpAny_notOrdered_dict r.ty ?_)
 show wpAny (model prog w) _ (pure (Value.ref d)) _ _ s;refine wpAny_pure ?_
 show wpAny (model prog w) _ (Builtin.Dict.showsAll d >>= _) _ _ s;unfold Builtin.Dict.showsAll
 rw [if_neg (by rw [lo];decide)];refine wpAny_bind (wpAny_pure (wpAny_bind (wpAny_dictEntries g dd (wpAny_bind (wpAny_dictEpoch g dd ?_)))))
 refine wpAny_bind (wpAny_newObj_type (wpAny_pure ⟨_,rfl,"dict_keyiterator",_,⟨_,Heap.get?_push_size _ rfl,rfl⟩,slot_dict_keyiterator_next.lookup,?_⟩))
 simpa [rawInt] using q
theorem IX {Q:Option Value->Shared->Prop} (hit:s.heap.IsKeyIter it d i es.size ep) (r:kK s.heap d es ep) (hx:es[i]?=some e)
  (q:∀ h',h'.IsKeyIter it d (i + 1) es.size ep->Heap.SameBut it s.heap h'->Q (some e.key) { s with heap:=h' }):wpAny (model prog w) A (pyNext (.ref it)) Q E s:=by
 obtain ⟨oi,gi,ci,di⟩:=id hit
 obtain ⟨o,g,c,dd⟩:=id r
 have T:=hit.typeIs
 have lt:i < es.size:=(Array.getElem?_eq_some_iff.mp hx).1
 unfold pyNext
 refine wpAny_bind (wpAny_attempt (wpAny_callSpecial?_slot (name:=Str.ofString "__next__") T slot_dict_keyiterator_next (wpAny_call_entry slot_dict_keyiterator_next T entry_dict_keyiterator_next ?_ (args_dict_keyiterator_next_1 _))))
 refine wpAny_bind (wpAny_pure (wpAny_bind (wpAny_bind ?_)))
 first | refine wpAny_bind (wpAny_typeNameOfWhole_keyiter T (wpAny_pure (wpAny_bind (wpAny_fieldsOf gi di ?_)))) | refine wpAny_bind (wpAny_typeNameOf_keyiter T (wpAny_pure (wpAny_bind (wpAny_fieldsOf gi di ?_))))
 simp only [show Builtin.Dict_items.ownsTuple "dict_keyiterator"=false by decide,Bool.false_eq_true,if_false]
 show wpAny (model prog w) _ (if (Value.ref d == Value.none)=true then _ else _) _ _ s
 rw [if_neg (show ¬ ((Value.ref d == Value.none)=true) from Bool.false_ne_true)];refine wpAny_bind (wpAny_pure (wpAny_bind (wpAny_dictEntries g dd ?_)))
 rw [if_neg (by simp)];refine wpAny_bind (wpAny_pure (wpAny_bind (wpAny_dictEpoch g dd ?_)));rw [if_neg (by simp)];refine wpAny_pure ?_
 simp only [show ¬ ((i:Int) < 0) by omega,if_false,Int.toNat_natCast,hx];refine wpAny_bind ?_
 first | refine wpAny_bind (wpAny_typeNameOfWhole_keyiter T (wpAny_pure (wpAny_bind (wpAny_isOneOf_keyiter T ?_)))) | refine wpAny_bind (wpAny_typeNameOf_keyiter T (wpAny_pure (wpAny_bind (wpAny_isOneOf_keyiter T ?_))))
 show wpAny (model prog w) _ (setField (.ref it) 1 (rawInt ((i:Int) + 1)) >>= _) _ _ s
 refine wpAny_bind (wpAny_setField gi di (by simp) ?_)
 have hit':(s.heap.update it (Obj.mapFields (·.setIfInBounds 1 (rawInt ((i:Int) + 1))))).IsKeyIter it d (i + 1) es.size ep :=
  ⟨_,Heap.get?_update_self _ gi (Obj.isFreed_of_fields (Obj.data_mapFields di _)),(Obj.cls_mapFields ..).trans ci,by rw [Obj.data_mapFields di];simp [rawInt]⟩
 refine wpAny_bind (wpAny_holding (wpAny_bind (wpAny_isOneOf_keyiter (s:={ s with heap:=s.heap.update it (Obj.mapFields (·.setIfInBounds 1 (rawInt ((i:Int) + 1)))) }) hit'.typeIs ?_)))
 show wpAny (model prog w) _ (pure e.key) _ _ _
 exact wpAny_pure (wpAny_pure ⟨_,rfl,wpAny_pure (q _ hit' (Heap.SameBut.update ..))⟩)
theorem LQ {Q:Option Value->Shared->Prop} (hh:A.handled=none) (hit:s.heap.IsKeyIter it d i es.size ep) (r:kK s.heap d es ep) (hx:es[i]?=none)
  (q:∀ h',Heap.ExtBut it s.heap h'->Q none { s with heap:=h' }):wpAny (model prog w) A (pyNext (.ref it)) Q E s:=by
 obtain ⟨oi,gi,ci,di⟩:=id hit
 obtain ⟨o,g,c,dd⟩:=id r
 have T:=hit.typeIs
 unfold pyNext
 refine wpAny_bind (wpAny_attempt (wpAny_callSpecial?_slot (name:=Str.ofString "__next__") T slot_dict_keyiterator_next (wpAny_call_entry slot_dict_keyiterator_next T entry_dict_keyiterator_next ?_ (args_dict_keyiterator_next_1 _))))
 refine wpAny_bind (wpAny_pure (wpAny_bind (wpAny_bind ?_)))
 first | refine wpAny_bind (wpAny_typeNameOfWhole_keyiter T (wpAny_pure (wpAny_bind (wpAny_fieldsOf gi di ?_)))) | refine wpAny_bind (wpAny_typeNameOf_keyiter T (wpAny_pure (wpAny_bind (wpAny_fieldsOf gi di ?_))))
 simp only [show Builtin.Dict_items.ownsTuple "dict_keyiterator"=false by decide,Bool.false_eq_true,if_false]
 show wpAny (model prog w) _ (if (Value.ref d == Value.none)=true then _ else _) _ _ s
 rw [if_neg (show ¬ ((Value.ref d == Value.none)=true) from Bool.false_ne_true)];refine wpAny_bind (wpAny_pure (wpAny_bind (wpAny_dictEntries g dd ?_)))
 rw [if_neg (by simp)];refine wpAny_bind (wpAny_pure (wpAny_bind (wpAny_dictEpoch g dd ?_)));rw [if_neg (by simp)];refine wpAny_pure ?_
 simp only [show ¬ ((i:Int) < 0) by omega,if_false,Int.toNat_natCast,hx];refine wpAny_bind ?_
 first | refine wpAny_bind (wpAny_typeNameOfWhole_keyiter T (wpAny_pure ?_)) | refine wpAny_bind (wpAny_typeNameOf_keyiter T (wpAny_pure ?_))
 show wpAny (model prog w) _ (setField (.ref it) 0 .none >>= _) _ _ s
 refine wpAny_bind (wpAny_setField gi di (by simp) ?_)
 show wpAny (model prog w) _ (newExc (.type "StopIteration") [] >>= _) _ _ _
 refine wpAny_bind ?_;simp only [newExc,newTuple];refine wpAny_bind (wpAny_newObj_type ?_ (by size_fits))
 refine wpAny_bind (m:=firstArgMember _ _) (wpAny_of_eq (a:=Value.none) (by first | rfl | (simp only [firstArgMember];rfl)) (wpAny_newObj_type ?_ (by size_fits)))
 simp only [raiseNew];refine wpAny_bind (wpAny_handled ?_);rw [show A.in1.handled=none from hh]
 refine wpAny_bind (wpAny_pure (wpAny_throw ?_));refine wpAny_bind (wpAny_isInstance (T:="StopIteration") (b:=true) ⟨_,Heap.get?_push_size _ rfl,rfl⟩ isSubtype_stop ?_)
 exact wpAny_pure (q _ (((Heap.SameBut.update ..).extBut.push _).push _))
end
end L2
namespace L2
open PySem PySem.Spec PyProof.Rows
def qX (o:Obj):Array DictEntry:=match o.data with | .dict es _=>es | _=>#[]
def Dr (o:Obj):Nat:=match o.data with | .dict _ ep=>ep | _=>0
def EY:HO->Nat
 | .dK kvs=>kvs.length
 | .dT kvs=>kvs.length
 | _=>0
def P7 (H:Hp) (i:Nat) (x:V):HO->Prop
 | .dK kvs=>∃ p,kvs[i]?=some p/\x=kV p.1
 | .dT kvs=>∃ p b,kvs[i]?=some p/\x=.ref b/\H b=some (.tup (p.1.map kV))
 | _=>False
def Qn (i:Nat) (x:V):HO->Prop
 | .dK kvs=>∃ p,kvs[i]?=some p/\x=p.2
 | .dT kvs=>∃ p,kvs[i]?=some p/\x=p.2
 | _=>False
theorem NO {P:Program} {w:World} {k:Key} {u:Value} (h:(dJ P w).is k u=true):RelV (kV k) u:=by
 rcases eE (show sU k u=true from h) with ⟨i,t,rfl,rfl⟩ | ⟨x,t,rfl,rfl⟩
 ·exact ⟨_,rfl⟩
 ·exact ⟨_,rfl⟩
theorem DV {P:Program} {w:World}:∀ {es:List DictEntry} {vs:List (Key × Value)} {kvs:List (Key × V)},Pairs (dJ P w) es vs->KV kvs vs->es.length=kvs.length/\∀ (i:Nat) (e:DictEntry),es[i]?=some e->∃ p,kvs[i]?=some p/\RelV (kV p.1) e.key/\RelV p.2 e.val
 | _,_,_,.nil,.nil=>⟨rfl,fun i e h=>by simp at h⟩
 | _,_,_,.cons h1 h2 t,.cons q r=>by
  obtain ⟨hl,ih⟩:=DV t r
  refine ⟨by simp [hl],fun i e h=>?_⟩
  cases i with
  | zero=>simp at h;subst h;exact ⟨_,rfl,by rw [q.1];exact NO h1,by rw [h2];exact q.2⟩
  | succ j=>simpa using ih j e (by simpa using h)
theorem Nh {P:Program} {w:World} {H:Hp} {h:Heap} {d:Addr} {o:Obj} {u:HO} (ok:gJ P w H h) (e:H d=some (.frz o u)) (dk:U2.sQ u=true):kK h d (qX o) (Dr o)/\(qX o).size=EY u/\(d == sysModules)=false/\EY u<=sizeLine /\
  ∀ (i:Nat) en,(qX o)[i]?=some en->∃ k v,P7 H i k u/\RelV k en.key/\Qn i v u/\RelV v en.val:=by
 obtain ⟨g,hq⟩:=(show bR P w H h d (.frz o u) from ok d _ e)
 cases u with
 | dK kvs =>
  obtain ⟨z,hs,vs,rel,o',es,ep,g',c',d',kk,pp,nn⟩:=hq
  rw [g] at g';cases g'
  have e1:qX o=es:=by unfold qX;rw [d']
  have e2:Dr o=ep:=by unfold Dr;rw [d']
  obtain ⟨hl,pr⟩:=DV pp rel
  rw [e1,e2]
  refine ⟨⟨o,g,c',d'⟩,by simpa [EY] using hl,hs,z,fun i en hi=>?_⟩
  obtain ⟨p,h1,h2,h3⟩:=pr i en (by rw [Array.getElem?_toList];exact hi)
  exact ⟨_,_,⟨p,h1,rfl⟩,h2,⟨p,h1,rfl⟩,h3⟩
 | dT kvs =>
  obtain ⟨z,hs,xs,rel,o',es,ep,g',c',d',pp,nn⟩:=hq
  rw [g] at g';cases g'
  have e1:qX o=es:=by unfold qX;rw [d']
  have e2:Dr o=ep:=by unfold Dr;rw [d']
  rw [e1,e2]
  have hl:es.size=kvs.length:=by rw [<- Array.length_toList,pp,List.length_map];exact (Paired.length rel).symm
  have pr:∀ {kvs:List (List Key × V)} {xs:List (List Key × Addr × Value)},Paired (fun (p:List Key × V) (q:List Key × Addr × Value)=>p.1=q.1/\H q.2.1=some (.tup (p.1.map kV))/\RelV p.2 q.2.2) kvs xs->∀ (i:Nat) q,xs[i]?=some q->∃ p,kvs[i]?=some p/\p.1=q.1/\H q.2.1=some (.tup (p.1.map kV))/\RelV p.2 q.2.2:=by
   intro kvs xs r
   induction r with
   | nil=>intro i q h;simp at h
   | cons h t ih =>
    intro i q hq
    cases i with
    | zero=>simp at hq;subst hq;exact ⟨_,rfl,h⟩
    | succ j=>simpa using ih j q (by simpa using hq)
  refine ⟨⟨o,g,c',d'⟩,hl,hs,z,fun i en hi=>?_⟩
  have h0:(xs.map (entryOfKey (tupleKind (dJ P w))))[i]?=some en:=by rw [<- pp,Array.getElem?_toList];exact hi
  rw [List.getElem?_map] at h0
  cases hx:xs[i]? with
  | none=>rw [hx] at h0;cases h0
  | some q =>
   rw [hx] at h0;cases h0
   obtain ⟨p,h1,h2,h3,h4⟩:=pr rel i q hx
   exact ⟨.ref q.2.1,p.2,⟨p,q.2.1,h1,rfl,h3⟩,rfl,⟨p,h1,rfl⟩,h4⟩
 | _=>cases dk
section
variable {X:Cx} {tg:Expr}
theorem freeze {pins:List (Addr × Obj)} {σ:St} {H:Hp} {s:Shared} {d:Addr} {u:HO} (I:Inv X pins σ H s) (e:H d=some u) (dk:U2.sQ u=true):∃ o,Inv X pins σ (upd H d (.frz o u)) s:=by
 have ok:bR X.prog X.w H s.heap d u:=I.hok d _ e
 have hx:∃ o,s.heap.get? d=some o:=by
  cases u with
  | dK kvs=>obtain ⟨_,_,_,_,o,_,_,h1,_⟩:=ok;exact ⟨o,h1⟩
  | dT kvs=>obtain ⟨_,_,_,_,o,_,_,h1,_⟩:=ok;exact ⟨o,h1⟩
  | _=>cases dk
 obtain ⟨o,g⟩:=hx
 refine ⟨o,?_⟩
 have ok2:bR X.prog X.w (upd H d (.frz o u)) s.heap d u:=by
  cases u with
  | dK kvs=>exact ok
  | dT kvs =>
   obtain ⟨z,hs,xs,rel,r⟩:=ok
   refine ⟨z,hs,xs,?_,r⟩
   have up:∀ {kvs:List (List Key × V)} {xs:List (List Key × Addr × Value)},Paired (fun (p:List Key × V) (q:List Key × Addr × Value)=>p.1=q.1/\H q.2.1=some (.tup (p.1.map kV))/\RelV p.2 q.2.2) kvs xs->∀ f:HO,Paired (fun (p:List Key × V) (q:List Key × Addr × Value)=>p.1=q.1/\upd H d f q.2.1=some (.tup (p.1.map kV))/\RelV p.2 q.2.2) kvs xs:=by
    intro kvs xs r f
    induction r with
    | nil=>exact .nil
    | cons h t ih=>exact .cons ⟨h.1,by rw [bL (fun z=>by rw [z,e] at h;exact absurd h.2.1 (by simp))];exact h.2.1,h.2.2⟩ ih
   exact up rel _
  | _=>cases dk
 have:=I.write (x:=d) (e:=d) (o:=.frz o u) (h':=s.heap) (t':=s.toks) (by rw [e];cases u <;> first | trivial | cases dk) (.inl rfl) (fun b u _ q=>q) ⟨o,g⟩ ⟨g,ok2⟩
 exact this
def Bu (H:Hp) (d:Addr) (R:Obj->HO->Hp->Prop):Prop:=∃ u,U2.sQ u=true/\((H d=some u/\∀ o,R o u (upd H d (.frz o u)))\/∃ o,H d=some (.frz o u)/\R o u H)
theorem Bu.go {pins:List (Addr × Obj)} {σ:St} {H:Hp} {s:Shared} {d:Addr} {R:Obj->HO->Hp->Prop} (I:Inv X pins σ H s) (h:Bu H d R):∃ o u H2,Inv X pins σ H2 s/\H2 d=some (.frz o u)/\U2.sQ u=true/\R o u H2:=by
 obtain ⟨u,dk,⟨e,r⟩ | ⟨o,e,r⟩⟩:=h
 ·obtain ⟨o,I2⟩:=freeze I e dk
  exact ⟨o,u,_,I2,cJ,dk,r o⟩
 ·exact ⟨o,u,H,I,e,dk,r⟩
theorem IA {prog:Program} {w:World} {A:Around} (hh:A.handled=none) (I d:Addr) (hne:d≠I) (es:Array DictEntry) (ep:Nat):Walks prog w A I [I,d] [I] es.size (fun i v=>∃ e,es[i]?=some e/\v=e.key) (fun i h=>h.IsKeyIter I d i es.size ep/\kK h d es ep) where
 sub:=fun b hb=>by simp at hb;simp [hb]
 frame:=fun _ _ _ st hk=>⟨st.1.at fun o e=>hk I (by simp) o e,st.2.at fun o e=>hk d (by simp) o e⟩
 item:=fun i s Q E hi st hQ=>IX st.1 st.2 (Array.getElem?_eq_getElem hi) fun h' hit' hs'=>hQ _ h' s.toks ⟨_,Array.getElem?_eq_getElem hi,rfl⟩ ⟨hit',st.2.at fun o e=>hs'.extBut d o hne e⟩ fun b o hb e=>hs'.extBut b o (fun h=>hb (by simp [h])) e
 done:=fun s Q E st hQ=>LQ hh st.1 st.2 (Array.getElem?_eq_none (Nat.le_refl _)) fun h' he'=>hQ h' s.toks fun b o hb e=>he' b o (fun h=>hb (by simp [h])) e
 self:=fun _ _ _ _ st hQ=>wpAny_pyIter_keyiter st.1 hQ
theorem MQ {prog:Program} {w:World} {d:Addr} (lo:(d == sysModules)=false) (es:Array DictEntry) (ep:Nat):PySem.W.KdlSrc prog w "dict" d d es.size (fun i v=>∃ e,es[i]?=some e/\v=e.key) (fun h=>kK h d es ep) where
 type:=fun _ hm=>hm.ty
 there:=fun _ hm=>⟨hm.lt,hm.lt⟩
 keep:=fun _ _ hm hk=>hm.at fun o e=>hk d (.inl rfl) o e
 notList:=by decide
 notTuple:=by decide
 hint:=fun _ _ _ _ hm hq=>PySem.W.kdl_hint_dict hm.ty hq
 iter:=fun _ _ hh hm=>⟨_,_,(fun _ _ hq=>J9 lo hm hq),IA hh _ d (Nat.ne_of_lt hm.lt) es ep,⟨⟨_,Heap.get?_push_size _ rfl,rfl,rfl⟩,hm.at fun o e=>Heap.get?_push_of_some _ e⟩⟩
end
end L2
namespace U2
open PySem PySem.Spec PyProof.Rows L2
def keyOf (tk:Bool) (k:List Key):U:=if tk then .tup (k.map kU) else kU (vU k)
def Lf (tk:Bool) (ks:List (List Key)):List U:=ks.map (keyOf tk)
def RO (tk:Bool) (ks:List (List Key)) (us:List U):List U:=(ks.zip us).map fun p=>.tup [keyOf tk p.1,p.2]
theorem Q9 (tk:Bool) (ks:List (List Key)):(Lf tk ks).length=ks.length:=by simp [Lf]
def Q6 (u:HO) (ks:List (List Key)) (tk:Bool) (vs:List V):Prop:=match tk with
 | true=>∃ ws,u=.dT ws/\ks=ws.map (·.1)/\vs=ws.map (·.2)
 | false=>∃ ws,u=.dK ws/\ks=ws.map (fun p=>[p.1])/\vs=ws.map (·.2)
section
variable {K:PySem.W.Frag} {H:Hp} {M:aF}
theorem J2 {ks:List (List Key)} {tk:Bool} {us:List U} {v:V} {R:Addr->Obj->HO->Hp->Prop} (rm:RelM K H M) (r:aJ K H M (.dic ks tk us) v)
  (h:∀ a o u H2 vs,v=.ref a->aR H M H2 M->RelM K H2 M->H2 a=some (.frz o u)->M a=none->Q6 u ks tk vs->aI K H2 M us vs->R a o u H2):∃ d,v=.ref d/\Bu H d (R d):=by
 simp only [aJ] at r
 obtain ⟨a,vs,rfl,m,da,ru⟩:=r
 refine ⟨a,rfl,?_⟩
 have go:∀ u,sQ u=true->Q6 u ks tk vs->Rd H a u->Bu H a (R a):=by
  intro u dk dok rd
  rcases rd with e | ⟨o,e⟩
  ·refine ⟨u,dk,.inl ⟨e,fun o=>?_⟩⟩
   have st:aR H M (upd H a (.frz o u)) M:=fun b ob eb mb=>by
    by_cases hb:b=a
    ·subst hb;rw [e] at eb;cases eb
     exact ⟨.inr ⟨dk,o,cJ⟩,m⟩
    ·exact ⟨.inl (by rw [bL hb];exact eb),mb⟩
   have rm2:RelM K (upd H a (.frz o u)) M:=fun b mo eb=>(rm b mo eb).stp (fun _ _ z=>z) st (bL (fun z=>by rw [z,m] at eb;cases eb))
   exact h a o u _ vs rfl st rm2 cJ m dok (ru.stp st)
  ·exact ⟨u,dk,.inr ⟨o,e,h a o u H vs rfl (aR.refl _ _) rm e m dok ru⟩⟩
 cases tk with
 | true=>obtain ⟨ws,e,e1,e2⟩:=da;exact go _ rfl ⟨ws,rfl,e1,e2⟩ e
 | false=>obtain ⟨ws,e,e1,e2⟩:=da;exact go _ rfl ⟨ws,rfl,e1,e2⟩ e
end
section
variable {D:Dat} {tg e:Expr} {te:UE} {pos p:Pos}
end
end U2
namespace U2
open PySem PySem.Spec PyProof.Rows L2
def Cv (τ:SU) (M:aF) (τ':SU) (M':aF):Prop:=∀ (K:PySem.W.Frag) (H:Hp) (σ:L2.St),RelM K H M->dU K H M σ τ->aR H M H M'/\RelM K H M'/\dU K H M' σ τ'
def Bc (t:US):US:=fun D τ M=>t { D with nx:=fun τ1 M1=>∃ τ' M',Cv τ1 M1 τ' M'/\D.nx τ' M' } τ M
theorem Le {D:Dat} {s:Stmt} {t:US} (h:rO D s t):rO D s (Bc t):=by
 obtain ⟨u,p,q⟩:=h
 refine ⟨u,p,fun σ τ H M D' rs rm h D d=>q σ τ H M _ rs rm h D ⟨fun σ1 τ1 H1 M1 s1 rm1 rs1 h1=>?_,d.rt,d.bk,d.ct⟩⟩
 obtain ⟨τ',M',c,h2⟩:=h1
 obtain ⟨s2,rm2,rs2⟩:=c _ H1 σ1 rm1 rs1
 exact d.nx σ1 τ' H1 M' (s1.trans s2) rm2 rs2 h2
section
variable {K:PySem.W.Frag} {H:Hp} {M1 M':aF}
theorem DT {κ:Type}:∀ {kvs:List (κ × U)} {ws:List (κ × V)} {M:aF},cP K H M kvs ws->kvs.map (·.1)=ws.map (·.1)/\aI K H M (kvs.map (·.2)) (ws.map (·.2))
 | _,_,_,.nil=>⟨rfl,.nil⟩
 | _,_,_,.cons h t=>by
  obtain ⟨h1,h2⟩:=DT t
  refine ⟨?_,.cons h.2 h2⟩
  rw [List.map_cons,List.map_cons,h1,h.1]
def u0 (kvs:List (Key × U)):U:=.dic (kvs.map fun e=>[e.1]) false (kvs.map (·.2))
def RW (kvs:List (List Key × U)):U:=.dic (kvs.map (·.1)) true (kvs.map (·.2))
theorem Kw (M:aF) (kvs:List (Key × U)):yA M (u0 kvs)=some (.dK kvs):=by
 have e:∀ l:List (Key × U),((l.map fun e=>[e.1]).map vU).zip (l.map (·.2))=l:=by
  intro l
  induction l with
  | nil=>rfl
  | cons a r ih=>simp only [List.map_cons,List.zip_cons_cons,ih,vU]
 simp only [u0,yA,e]
theorem Bp {kvs:List (Key × U)} {a:Addr} (rm:RelM K H M1) (h:M1 a=some (.dK kvs)) (hn:M' a=none) (st:aR H M1 H M'):aJ K H M' (u0 kvs) (.ref a):=by
 obtain ⟨ws,h1,r⟩:=rm a _ h
 obtain ⟨h2,h3⟩:=DT r
 refine ⟨a,ws.map (·.2),rfl,hn,⟨ws,.inl h1,?_,rfl⟩,h3.stp st⟩
 have:=congrArg (List.map fun k:Key=>[k]) h2
 rw [List.map_map,List.map_map] at this
 exact this
theorem Ms {us:List U} {a:Addr} (rm:RelM K H M1) (h:M1 a=some (.lst us)) (hn:M' a=none) (st:aR H M1 H M'):aJ K H M' (.lst us) (.ref a):=by
 obtain ⟨vs,h1,r⟩:=rm a _ h
 exact tB hn h1 (r.stp st)
end
end U2
namespace L2
open PySem PySem.Spec PyProof.Rows
section
variable {X:Cx} {o e f:Expr} {apos cpos:Pos} {td ty tx:TE}
end
end L2
namespace U2
open PySem PySem.Spec PyProof.Rows L2
end U2
namespace U2
open PySem PySem.Spec PyProof.Rows L2
end U2
namespace L2
open PySem PySem.Spec PyProof.Rows
section
variable {prog:Program} {w:World} {A:Around} {E:Value->Shared->Prop} {s:Shared}
theorem EI {α β:Type} {R:α->β->Prop}:∀ {l:List α} {r:List β},Paired R l r->l.length=r.length
 | _,_,.nil=>rfl
 | _,_,.cons _ t=>by simp [EI t]
theorem EF {α β:Type} {R:α->β->Prop} {P:β->Prop} (h:∀ a b,R a b->P b):∀ {l:List α} {r:List β},Paired R l r->∀ b∈r,P b
 | _,_,.nil,b,hb=>by cases hb
 | _,_,.cons x t,b,hb=>by
  rcases List.mem_cons.mp hb with rfl | hb
  ·exact h _ _ x
  ·exact EF h t b hb
theorem Rw (vs:List Value):(vs.toArray.zip vs.toArray).map (·.2)=vs.toArray:=by
 rw [Array.map_snd_zip (Nat.le_refl _)]
theorem xZ {h:Heap} {a:Addr} {vs:List Value} {out:Array Value} {b:Addr} {o:Obj} (hb:b≠a) (g:h.get? b=some o):(sortedHeap h a vs out).get? b=some o:=by
 unfold sortedHeap
 rw [Heap.get?_update_other _ _ (Ne.symm hb)]
 exact Heap.get?_push_of_some _ (Heap.get?_push_of_some _ (by rw [Heap.get?_update_other _ _ (Ne.symm hb)];exact g))
theorem sortedHeap_at {h:Heap} {a:Addr} {vs:List Value} {out:Array Value} {n:Nat} (g:h.get? a=some (seqObj "list" vs.toArray n)):∃ e,(sortedHeap h a vs out).get? a=some (seqObj "list" out e):=by
 unfold sortedHeap
 obtain ⟨e1,g1⟩:∃ e1,(h.update a (Obj.mapSeq fun _=>#[])).get? a=some (seqObj "list" #[] e1):=⟨_,get?_update_seq g (fun _=>#[])⟩
 exact ⟨_,get?_update_seq (Heap.get?_push_of_some _ (Heap.get?_push_of_some _ g1)) fun _=>out⟩
open PySem.W in
theorem Dg {T:String} {r d:Addr} {n:Nat} {P:Nat->Value->Prop} {OK:Heap->Prop} {R:List Value->Shared->Prop} (S:KdlSrc prog w T r d n P OK) (hh:A.handled=none) (hok:OK s.heap) (hn:n<=sizeLine)
  (q:∀ (h1:Heap) (tk:Nat) (acc:Array Value),(∀ b o,s.heap.get? b=some o->h1.get? b=some o)->s.heap.objs.size<=h1.objs.size->ItemsOf P acc n->R acc.toList { s with heap:=h1,toks:=tk }):wpAny (model prog w) A (collect (.ref r)) R E s:=by
 obtain ⟨l1,l2⟩:=S.there _ hok
 unfold collect;refine wpAny_bind (wpAny_runValue (codeAny_builtin entry_proto_collect' ?_));rw [Around.under_plainId PySem.F.plain_proto_collect _]
 show wpAny _ A.in1 (newList [] >>= fun z=>again (.builtin "list.__iadd__" ⟨[z,.ref r],[]⟩)) _ _ s
 refine wpAny_bind (wpAny_newObj_type (wpAny_pure ⟨plainId_quiet PySem.F.plain_list_iadd _,codeAny_builtin entry_list_iadd' ?_⟩));rw [Around.under_plainId PySem.F.plain_list_iadd _]
 have key:=kdl_extend (A:=A) (s:={ s with heap:=s.heap.push { cls:=.type "list",data:=.seq ([]:List Value).toArray } })
  (R:=fun (z:Result) (t:Shared)=>∃ (h1:Heap) (tk:Nat) (acc:Array Value) (c:Nat),z=.ok (.ret (.ref s.heap.objs.size))/\t={ s with heap:=h1,toks:=tk }/\(∀ b o,s.heap.get? b=some o->h1.get? b=some o)/\h1.get? s.heap.objs.size=some { cls:=.type "list",dict:=none,data:=.seq acc c,slots:=#[] }/\ItemsOf P acc n)
  S hh (S.keep _ _ hok fun b _ o e=>Heap.get?_push_of_some _ e) s.heap.objs.size (Nat.ne_of_gt l1) (Nat.ne_of_gt l2) (.ref s.heap.objs.size) 0 (Heap.get?_push_size _ rfl)
  (fun h1 tk acc c hk g ha=>⟨h1,tk,acc,c,rfl,rfl,fun b o e=>hk b o (Nat.ne_of_lt (Heap.lt_size e)) (Heap.get?_push_of_some _ e),g,ha⟩) hn
 show wpAny _ A.in1 (Builtin.List.listExtendWith (.ref s.heap.objs.size) (.ref r) (.ref s.heap.objs.size)) _ _ _
 have fin:∀ (h1:Heap) (tk:Nat) (acc:Array Value) (c:Nat),(∀ b o,s.heap.get? b=some o->h1.get? b=some o)->h1.get? s.heap.objs.size=some { cls:=.type "list",dict:=none,data:=.seq acc c,slots:=#[] }->ItemsOf P acc n->wpAny (model prog w) A (load s.heap.objs.size >>= fun o=>match o.data with | .seq xs _=>pure xs.toList | _=>unsupported "internal:collect") R E { s with heap:=h1,toks:=tk }:=fun h1 tk acc c hk g ha =>
  wpAny_bind (wpAny_load g (wpAny_pure (q h1 tk acc hk (Nat.le_of_lt (Heap.lt_size g)) ha)))
 refine wpAny_mono key (fun f t x=>?_) fun e t x=>?_
 ·cases f with
  | done f =>
   obtain ⟨h1,tk,acc,c,e,rfl,hk,g,ha⟩:=x
   cases e;exact fin h1 tk acc c hk g ha
  | again c₁ =>
   refine ⟨x.1,codeAny_mono x.2 fun z t y=>?_⟩
   obtain ⟨h1,tk,acc,c,rfl,rfl,hk,g,ha⟩:=y
   exact fin h1 tk acc c hk g ha
 ·obtain ⟨_,_,_,_,z,_⟩:=x
  cases z
end
theorem MI:∀ {ts:List Addr} {us:List Value},Vals (ts.map V.ref) us->us=ts.map Value.ref
 | [],_,r=>by cases r;rfl
 | t :: ts,_,r=>by
  cases r with
  | cons h q=>cases h;rw [MI q];rfl
end L2
namespace U2
open PySem PySem.Spec PyProof.Rows L2
theorem Qo {K:PySem.W.Frag} {H:Hp} {M:aF}:∀ {ns:List Int} {zs:List V},aI K H M (ns.map U.int) zs->zs=ns.map V.int
 | [],zs,r=>r.inv_nil
 | n :: ns,zs,r=>by
  obtain ⟨w,ws,rfl,c,d⟩:=aI.inv_cons (show aI K H M (.int n :: ns.map U.int) zs from r)
  rw [c.int,Qo d];rfl
end U2
namespace U2
open PySem L2
def Pm:US:=fun _ _ _=>False
theorem B8 {D:Dat} {st:Stmt}:rO D st Pm:=⟨fun _ _ _=>False,fun X _=>fun _ _ _ _ _ _ h=>h.elim,fun _ _ _ _ _ _ _ h=>h.elim⟩
end U2
namespace L2
open PySem PySem.Spec PyProof.Rows
section
variable {M:Model} {A:Around} {E:Value->Shared->Prop} {s:Shared} {base:Heap} {env:Env} {outer:List Env} {L e:Addr} {oe:Obj} {vs:Array Value}
def RH (fl:Value->Prop) (h:Heap) (e:Addr) (vs:Array Value) (T:Option Addr):Prop:=match T with
 | none=>vs[1]?=some .none
 | some T=>vs[1]?=some (.ref T)/\T≠e/\∃ oT ts v,h.get? T=some oT/\oT.data=.fields ts/\ts[3]?=some v/\fl v
end
end L2
namespace L2
open PySem PySem.Spec
section
variable {prog:Program} {w:World} {A:Around} {E:Value->Shared->Prop} {h:Heap} {g:Array GenState} {d:Drawn} {t:Nat} {os:OsState}
variable {nm q:Str} {C N:Addr} {bs bm:List Value} {hdct:Bool} {sn:List Str} {sub:List Value} {ab:Bool} {col:Option Bool} {dd:Option Addr} {k0 k1 k2 k3 k5:Option Value}
def RG:List Value:=[.type "ValueError",.type "Exception",.type "BaseException",.type "object"]
def QJ (h:Heap) (C:Addr) (us:List Value):Heap:=(h.push { cls:=.type "tuple",data:=.seq us.toArray }).push { cls:=.ref C,data:=.fields #[.ref h.objs.size,.none,.none,.none,.bool false,.none] }
theorem Qh (h:Heap) (C:Addr) (us:List Value):∀ b o,h.get? b=some o->(QJ h C us).get? b=some o:=fun b o e=>Heap.get?_push_of_some _ (Heap.get?_push_of_some _ e)
end
end L2
namespace L2
open PySem PySem.Spec
open Builtin Builtin.ObjectAttr
section
variable {prog:Program} {w:World} {A:Around} {E:Value->Shared->Prop} {h:Heap} {g:Array GenState} {d:Drawn} {t:Nat} {os:OsState}
variable {nm q:Str} {C N R x:Addr} {bs:List Value} {sn:List Str} {sub:List Value} {ab:Bool} {col:Option Bool} {dd:Option Addr} {k0 k1 k2 k3 k5:Option Value} {K:PySem.W.Frag} {name:Str} {v:Value}
abbrev R6 (R:Addr):List Value:=.ref R :: RG
def Rr (C t:Addr) (dx:Option Addr):Obj:={ cls:=.ref C,dict:=dx,data:=.fields #[.ref t,.none,.none,.none,.bool false,.none] }
end
end L2
namespace L2
open PySem PySem.Spec PyProof.Rows
end L2
namespace L2
open PySem PySem.Spec PyProof.Rows
def RQ (a C:Addr) (dx:Option Addr) (h:Heap):Prop:=∃ t,h.get? a=some (Rr C t dx)
section
variable {P:Program} {w:World} {H:Hp} {h h':Heap} {a d:Addr} {o:HO}
end
section
variable {X:Cx} {e1 e2:Expr} {t1 t2 ta tv:TE} {p pos apos pos':Pos} {r f:Str} {R:Addr}
theorem Ru {H:Hp} {a:Addr} {o:HO} (h:H a=some o):upd H a o=H:=by
 funext b;unfold upd;split
 ·rename_i e;subst e;exact h.symm
 ·rfl
end
end L2
namespace L2
open PySem PySem.Spec PyProof.Rows
structure QX (fl:Value->Prop) (sz:Nat) (nw:Addr->Prop) (h:Heap) (a C d:Addr) (fs:List (Str × V)):Prop where
 sa:sz<=a
 na:nw a
 nd:nw d
 ad:a≠d
 obj:∃ oe vs T,h.get? a=some oe/\oe.cls=.ref C/\oe.dict=some d/\oe.data=.fields vs/\RH fl h a vs T/\∀ T',T=some T'->sz<=T'/\nw T'/\T'≠d
 att:∃ mA,h.Ns1 d mA/\∀ f,oG (fs.lookup f) (mA f)
 cx:fs.length=1->∀ oe vs,h.get? a=some oe->oe.data=.fields vs->vs[2]?=some .none
def Rx (X:Cx) (pins:List (Addr × Obj)) (H:Hp) (b:Addr):Prop:=X.s₀.heap.get? b=none/\H b=none/\b≠X.env.locals/\∀ p∈X.pn++pins,p.1≠b
section
variable {X:Cx} {pins:List (Addr × Obj)} {σ:St} {H:Hp} {s:Shared} {a C d:Addr} {fs:List (Str × V)}
def RM (X:Cx) (v:Value):Prop:=v=.none\/v=rawInt X.env.locals
abbrev RI (X:Cx) (pins:List (Addr × Obj)) (H:Hp) (h:Heap) (a C d:Addr) (fs:List (Str × V)):Prop:=QX (RM X) X.s₀.heap.objs.size (Rx X pins H) h a C d fs
end
end L2
namespace L2
open PySem PySem.Spec PyProof.Rows
def RP (P:Program) (w:World):vV:=fun outer H s E e s'=>∃ a C d fs H',e=.ref a/\s'.os=s.os/\AllBare s'.gens/\Un (i9 outer) [] H H' s.heap s'.heap/\gJ P w H' s'.heap /\
 QX (fun v=>v=.none) s.heap.objs.size (fun b=>s.heap.get? b=none/\H' b=none) s'.heap a C d fs/\E (.ref C) (some d) (upd H' d (.xd fs))
abbrev XS:=Value->Option Addr->St->Hp->Prop
abbrev RB:=Ends->XS->St->Hp->Prop
abbrev RE:=St->Hp->VK->XS->Prop
section
variable {X:Cx} {e:Expr} {te:TE} {tx:RE} {st:Stmt} {rest a b:List Stmt} {t u:TS} {t' u':RB} {pos:Pos}
abbrev R1 (X:Cx):Prop:=X.xe=fun _ _=>False
end
end L2
namespace L2
open PySem PySem.Spec PyProof.Rows
section
variable {X:Cx}
end
end L2
namespace L2
open PySem PySem.Spec PyProof.Rows
section
variable {X:Cx} {pins:List (Addr × Obj)} {σ:St} {H:Hp} {s:Shared}
end
end L2
namespace L2
open PySem PySem.Spec PyProof.Rows
section
variable {X:Cx} {pins pl:List (Addr × Obj)} {σ:St} {H:Hp} {s:Shared} {a C d:Addr} {fs:List (Str × V)}
end
end L2
namespace L2
open PySem PySem.Spec
section
variable {prog:Program} {w:World} {A:Around} {E:Value->Shared->Prop} {h:Heap} {g:Array GenState} {d:Drawn} {t:Nat} {os:OsState} {K:PySem.W.Frag} {a C R fI:Addr} {o:Obj}
end
end L2
namespace U2
open PySem PySem.Spec L2
abbrev QY:=Addr->List (Str × U)->SU->aF->Prop
abbrev QZ:=Addr->List (Str × U)->aF->Prop
abbrev RL:=o6->QY->SU->aF->Prop
abbrev RA:=SU->aF->UK->QY->Prop
abbrev NV:=List U->aF->UK->QZ->Prop
def kI:U->Option V
 | .non=>some .non
 | .bl b=>some (.bl b)
 | .int i=>some (.int i)
 | .str x=>some (.str x)
 | _=>none
def Rc (fs':List (Str × U)) (fs:List (Str × V)):Prop:=Paired (fun (p:Str × U) (q:Str × V)=>p.1=q.1/\kI p.2=some q.2) fs' fs
def Qs (K:PySem.W.Frag) (H:Hp) (M:aF) (E':QZ) (E:XK):Prop:=∀ C fs' fs H1 M1 d,aR H M H1 M1->RelM K H1 M1->Rc fs' fs->H1 d=none->E' C fs' M1->E (.ref C) (some d) (upd H1 d (.xd fs))
def M9 (K:PySem.W.Frag) (sp:NV):Sp:=fun vs H Q E=>∃ us M Q' E',RelM K H M/\aI K H M us vs/\sp us M Q' E'/\cW K H M Q' Q/\Qs K H M E' E
section
variable {D:Dat} {e:Expr} {te:UE} {tx:RA} {st:Stmt} {rest a b:List Stmt} {t u:US} {t' u':RL} {pos:Pos}
structure Mo (P:Program) (w:World) (K:PySem.W.Frag) (mg:Str->Option Value) (base:Heap) (j:Nat) (x:Str) (sp:NV) (dus:List U):Prop where
 ex:∃ f fd ps dvs ds,iZ P w K mg base (RP P w) j f fd ps (M9 K sp)/\mg x=some (.ref f)/\PySem.W.keepIn K (.ref f)=true/\Binds K fd ps ds/\Vals dvs ds/\∀ H M,aI K H M dus dvs
abbrev RX (D:Dat):=Mo D.prog D.w D.K D.mg D.base
end
section
variable {P:Program} {w:World} {K:PySem.W.Frag} {mg:Str->Option Value} {base:Heap}
end
end U2
namespace U2
open PySem PySem.Spec L2
def Rj:V->U
 | .non=>.non
 | .bl b=>.bl b
 | .int i=>.int i
 | .str x=>.str x
 | .ref a=>.ref a
 | .ty n=>.ty n
 | _=>.lst []
theorem Qb {u:U} {v:V} (e:kI u=some v):u=Rj v:=by
 cases u <;> first | (cases e;rfl) | cases e
section
variable {D:Dat} {a0 C:Addr} {F:List (Str × U)} {e:Expr} {te:UE} {es:List Expr} {tas:UA} {pos:Pos} {st:Stmt} {sts:List Stmt} {t u:US}
def Eo:V->Value
 | .ref a=>.ref a
 | .ty n=>.type n
 | _=>.none
theorem Jj {v:V} {u:Value} (r:RelV v u) (n:Eo v≠.none):u=Eo v:=by
 cases v <;> first | exact r | exact absurd rfl n
theorem GO:∀ {vs:List V} {us:List Value},Vals vs us->(∀ v∈vs,Eo v≠.none)->us=vs.map Eo
 | _,_,.nil,_=>rfl
 | _,_,.cons r t,n=>by rw [Jj r (n _ List.mem_cons_self),GO t fun v hv=>n v (List.mem_cons_of_mem _ hv)];rfl
end
end U2
namespace U2
open PySem PySem.Spec PyProof.Rows L2
def RN:UE:=fun _ _ _=>False
theorem Qp {D:Dat} {e:Expr}:aV D e RN:=⟨fun _ _ _=>False,fun X _=>fun _ _ _ _ _ _ h=>h.elim,fun _ _ _ _ _ _ _ h=>h.elim⟩
def IJ (a b:UI):UI:=fun τ M R=>a τ M R\/b τ M R
theorem P8 {D:Dat} {tg e:Expr} {a b:UI} (h1:rM D tg e a) (h2:rM D tg e b):rM D tg e (IJ a b):=by
 obtain ⟨t1,p1,s1⟩:=h1;obtain ⟨t2,p2,s2⟩:=h2
 exact ⟨fun σ H R=>t1 σ H R\/t2 σ H R,fun X h pins s σ H R I q=>q.elim (p1 X h pins s σ H R I) (p2 X h pins s σ H R I),fun σ τ H M R' rs rm q R c=>q.elim (fun q=>.inl (s1 σ τ H M R' rs rm q R c)) fun q=>.inr (s2 σ τ H M R' rs rm q R c)⟩
end U2
namespace L2
open PySem PySem.Spec PyProof.Rows
def N8 (K:PySem.W.Frag) (H:Hp) (x:V) (t:String):Prop:=mO K H x (.type t)\/(t="tuple"/\∃ p vs ob,x=.ref p/\H p=some (.frz ob (.tup vs)))\/(t="tuple"/\∃ p vs,x=.ref p/\U2.KT K p vs)\/(t="list"/\∃ p vs,x=.ref p/\U2.KL K p vs)\/(t="dict"/\∃ p ob u,x=.ref p/\H p=some (.frz ob u)/\U2.sQ u=true)
theorem Qq {X:Cx} {pins:List (Addr × Obj)} {σ:L2.St} {H:Hp} {s:Shared} {x:V} {u:Value} {t:String} (I:Inv X pins σ H s) (rx:RelV x u) (ty:N8 X.K H x t):∃ Hq,PySem.W.KitX X.K u (.type t) Hq/\Hq s.heap/\u≠.builtin "__main__.__loader__#opaque":=by
 rcases ty with ty | ⟨rfl,p,vs,ob,rfl,m⟩ | ⟨rfl,p,vs,rfl,o,its,n,hk,hc,hd,_,_⟩ | ⟨rfl,p,vs,rfl,o,its,n,hk,hc,_,hd,_,_⟩ | ⟨rfl,p,ob,du,rfl,m,dk⟩
 ·generalize hT:(Value.type t)=T at ty
  cases ty with
  | non=>cases hT;cases (show u=Value.none from rx);exact ⟨_,PySem.W.kitx_none,True.intro,fun z=>nomatch z⟩
  | bl y=>cases hT;cases (show u=Value.bool y from rx);exact ⟨_,PySem.W.kitx_bool,True.intro,fun z=>nomatch z⟩
  | int i=>cases hT;obtain ⟨t,q⟩:=(show ∃ t,u=Value.int i t from rx);cases q;exact ⟨_,PySem.W.kitx_int,True.intro,fun z=>nomatch z⟩
  | str y=>cases hT;obtain ⟨t,q⟩:=(show ∃ t,u=Value.str y t from rx);cases q;exact ⟨_,PySem.W.kitx_str,True.intro,fun z=>nomatch z⟩
  | flt y=>cases hT;obtain ⟨t,q⟩:=(show ∃ t,u=Value.float y t from rx);cases q;exact ⟨_,PySem.W.kitx_float,True.intro,fun z=>nomatch z⟩
  | @lst a xs ea =>
   cases hT
   cases (show u=Value.ref a from rx)
   obtain ⟨_,_,n,_,h1⟩:=(show bR X.prog X.w H s.heap a (.lst xs) from I.hok a _ ea)
   exact ⟨_,PySem.W.kitx_list,⟨_,h1,rfl⟩,fun z=>nomatch z⟩
  | @frz a ob xs ea =>
   cases hT
   cases (show u=Value.ref a from rx)
   obtain ⟨_,_,_,n,_,h1⟩:=(show bR X.prog X.w H s.heap a (.frz ob (.lst xs)) from I.hok a _ ea)
   exact ⟨_,PySem.W.kitx_list,⟨_,h1,rfl⟩,fun z=>nomatch z⟩
  | @tup a xs ea =>
   cases hT
   cases (show u=Value.ref a from rx)
   obtain ⟨_,_,_,p⟩:=(show bR X.prog X.w H s.heap a (.tup xs) from I.hok a _ ea)
   obtain ⟨o,h1,h2,_⟩:=p
   exact ⟨_,PySem.W.kitx_tuple,⟨o,h1,h2⟩,fun z=>nomatch z⟩
  | @dK a kvs ea =>
   cases hT
   cases (show u=Value.ref a from rx)
   obtain ⟨_,_,vs,_,p⟩:=(show bR X.prog X.w H s.heap a (.dK kvs) from I.hok a _ ea)
   obtain ⟨o,es,ep,h1,h2,_⟩:=p
   exact ⟨_,PySem.W.kitx_dict,⟨o,h1,h2.1⟩,fun z=>nomatch z⟩
  | @dT a kvs ea =>
   cases hT
   cases (show u=Value.ref a from rx)
   obtain ⟨_,_,xs,_,o,es,ep,h1,h2,_⟩:=(show bR X.prog X.w H s.heap a (.dT kvs) from I.hok a _ ea)
   exact ⟨_,PySem.W.kitx_dict,⟨o,h1,h2.1⟩,fun z=>nomatch z⟩
  | @ins a C dx fs ea cl ha hn htk hm=>cases hT
 ·cases rx
  obtain ⟨_,_,_,_,o,h1,h2,_⟩:=(show bR X.prog X.w H s.heap p (.frz ob (.tup vs)) from I.hok p _ m)
  exact ⟨_,PySem.W.kitx_tuple,⟨o,h1,h2⟩,fun z=>nomatch z⟩
 ·cases rx
  exact ⟨_,PySem.W.kitx_tuple,⟨o,I.kIn _ _ hk,hc⟩,fun z=>nomatch z⟩
 ·cases rx
  exact ⟨_,PySem.W.kitx_list,⟨o,I.kIn _ _ hk,hc⟩,fun z=>nomatch z⟩
 ·cases rx
  obtain ⟨hg,ho⟩:=(show bR X.prog X.w H s.heap p (.frz ob du) from I.hok p _ m)
  have hx:∃ o,s.heap.get? p=some o/\o.cls=.type "dict":=by
   cases du with
   | dK kvs=>obtain ⟨_,_,_,_,o,_,_,h1,h2,_⟩:=ho;exact ⟨o,h1,h2.1⟩
   | dT kvs=>obtain ⟨_,_,_,_,o,_,_,h1,h2,_⟩:=ho;exact ⟨o,h1,h2.1⟩
   | _=>cases dk
  exact ⟨_,PySem.W.kitx_dict,hx,fun z=>nomatch z⟩
def Qz (K:PySem.W.Frag):List V->Hp->VK->Prop:=fun xs H Q=>∃ (x:V) (tp:Addr) (Ts:List String) (t:String) (b:Bool),xs=[x,.ref tp]/\H tp=some (.tup (Ts.map V.ty))/\N8 K H x t/\PySem.W.kitAny K (.type t) (Ts.map Value.type)=some b/\Q (.bl b) H
theorem D3:∀ {Ts:List String} {us:List Value},Vals (Ts.map V.ty) us->us=Ts.map Value.type
 | [],_,r=>by cases r;rfl
 | T :: Ts,_,r=>by
  cases r with
  | cons h t=>cases h;rw [D3 t];rfl
theorem GR {X:Cx}:iB X (.builtin "isinstance") (Qz X.K):=by
 intro pins s σ H xs us Q I r h
 obtain ⟨x,tp,Ts,t,b,rfl,m,ty,e,q⟩:=h
 obtain ⟨u,w',rfl,ru,rw'⟩:=vals2 r
 cases rw'
 obtain ⟨Hq,Z,hq,hn⟩:=Qq I ru ty
 obtain ⟨_,its,rv,o,g1,g2,g3,k,g4⟩:=(show bR X.prog X.w H s.heap tp (.tup (Ts.map V.ty)) from I.hok tp _ m)
 obtain ⟨oc,odi,odt,osl⟩:=o
 obtain rfl:oc=.type "tuple":=g2
 obtain rfl:odt=.seq its.toArray k:=g4
 rw [D3 rv] at g1
 exact PySem.W.kia_tup Z I.kIn hq g1 e hn fun tk=>⟨.bl b,H,I.tok tk,rfl,q⟩
end L2
namespace U2
open PySem PySem.Spec PyProof.Rows L2
def wC:List U->Option (List String)
 | []=>some []
 | .ty T :: r=>(wC r).map (T :: ·)
 | _=>none
theorem BB {K:PySem.W.Frag} {H:Hp} {M:aF}:∀ {us:List U} {vs:List V} {Ts:List String},aI K H M us vs->wC us=some Ts->vs=Ts.map V.ty
 | [],vs,Ts,r,e=>by
  simp only [wC] at e
  cases e
  simp only [aI] at r;rw [r];rfl
 | u :: us,vs,Ts,r,e=>by
  simp only [aI] at r
  obtain ⟨v,vs',rfl,a,b⟩:=r
  cases u with
  | ty T =>
   simp only [wC] at e
   cases e2:wC us with
   | none=>rw [e2] at e;cases e
   | some Ts' =>
    rw [e2] at e;cases e
    rw [a.ty,BB b e2];rfl
  | _=>simp only [wC] at e;cases e
def FP (t:String):List String->Option Bool
 | []=>some false
 | T :: r=>match bB t T with
  | some true=>some true
  | some false=>FP t r
  | none=>none
theorem D8 {K:PySem.W.Frag} {t:String}:∀ {Ts:List String} {b:Bool},FP t Ts=some b->PySem.W.kitAny K (.type t) (Ts.map Value.type)=some b
 | [],b,h=>by cases h;rfl
 | T :: r,b,h=>by
  simp only [FP] at h
  simp only [List.map_cons,PySem.W.kitAny]
  cases e:bB t T with
  | none=>rw [e] at h;cases h
  | some c =>
   rw [e] at h
   rw [zX e]
   cases c with
   | true=>exact h
   | false=>exact D8 h
def u9:List U->aF->UK->Prop:=fun us M Q=>match us with
 | [x,.tup cs]=>∃ t Ts b,nM M x=some t/\wC cs=some Ts/\FP t Ts=some b/\Q (.bl b) M
 | _=>False
theorem L7 {K:PySem.W.Frag} {H:Hp} {M:aF} {x:U} {v:V} {t:String} (rm:RelM K H M) (a1:aJ K H M x v) (e:nM M x=some t):L2.N8 K H v t:=by
 cases x with
 | non=>cases a1.non;cases e;exact .inl .non
 | bl y=>cases a1.bl;cases e;exact .inl (.bl y)
 | int y=>cases a1.int;cases e;exact .inl (.int y)
 | str y=>cases a1.str;cases e;exact .inl (.str y)
 | ty y=>cases e
 | tup y =>
  cases e
  simp only [aJ] at a1
  obtain ⟨a,vs,rfl,m,r⟩:=a1
  exact .inl (.tup m.2)
 | lst y =>
  cases e
  simp only [aJ] at a1
  obtain ⟨a,vs,rfl,m,r⟩:=a1
  rcases m with ⟨_,m | ⟨ob,m⟩⟩ | k
  ·exact .inl (.lst m)
  ·exact .inl (.frz m)
  ·exact .inr (.inr (.inr (.inl ⟨rfl,a,vs,rfl,k⟩)))
 | dic ks tk y =>
  cases e
  simp only [aJ] at a1
  obtain ⟨a,vs,rfl,m,r,_⟩:=a1
  cases tk with
  | true =>
   obtain ⟨ws,h1 | ⟨ob,h1⟩,_⟩:=r
   ·exact .inl (.dT h1)
   ·exact .inr (.inr (.inr (.inr ⟨rfl,a,ob,_,rfl,h1,rfl⟩)))
  | false =>
   obtain ⟨ws,h1 | ⟨ob,h1⟩,_⟩:=r
   ·exact .inl (.dK h1)
   ·exact .inr (.inr (.inr (.inr ⟨rfl,a,ob,_,rfl,h1,rfl⟩)))
 | ref y =>
  cases a1.ref
  simp only [nM] at e
  split at e
  ·rename_i ws e3
   cases e
   obtain ⟨vs,h1,_⟩:=rm y _ e3
   exact .inl (.lst h1)
  ·rename_i ws e4
   cases e
   obtain ⟨vs,h1,_⟩:=rm y _ e4;exact .inl (.dK h1)
  ·rename_i ws e4
   cases e
   obtain ⟨vs,h1,_⟩:=rm y _ e4;exact .inl (.dT h1)
  ·cases e
theorem OZ {D:Dat}:tT D (.builtin "isinstance") u9:=⟨⟨_,fun X h=>by have:=GR (X:=X);rw [h.K] at this;exact this,fun xs us H M Q' rm rus h Q c=>by
 unfold u9 at h
 split at h
 ·rename_i x cs
  obtain ⟨t,Ts,b,h1,h2,h3,h4⟩:=h
  obtain ⟨v,z,rfl,a1,a2⟩:=rus.two
  simp only [aJ] at a2
  obtain ⟨a,vs,rfl,m,r⟩:=a2
  rw [BB r h2] at m
  exact ⟨v,a,Ts,t,b,rfl,m.2,L7 rm a1 h1,D8 h3,c.here rm dD h4⟩
 ·exact h.elim⟩⟩
end U2
namespace L2
open PySem PySem.Spec PyProof.Rows
section
variable {prog:Program} {w:World} {A:Around} {E:Value->Shared->Prop} {s:Shared}
theorem CQ {x:Value} {ns:List Int} {W:List Value->Prop} {Q:Value->Shared->Prop}
  (hcol:∀ (A':Around) (E':Value->Shared->Prop) (R:List Value->Shared->Prop),A'.handled=A.handled->(∀ vs h1 tk,(∀ b o,s.heap.get? b=some o->h1.get? b=some o)->s.heap.objs.size<=h1.objs.size->W vs->R vs { s with heap:=h1,toks:=tk })->wpAny (model prog w) A' (collect x) R E' s)
  (hW:∀ vs,W vs->vs.length < 64/\IntsAre vs ns)
  (h:∀ (out:List Value) (ns':List Int) h' tk q e,IntsAre out ns'->ns'.Perm ns->ns'.Pairwise (·<=·)->(∀ b o,s.heap.get? b=some o->h'.get? b=some o)->s.heap.objs.size<=q->h'.get? q=some (seqObj "list" out.toArray e)->Q (.ref q) { s with heap:=h',toks:=tk }) :
  wpAny (model prog w) A (call (.builtin "sorted") [x]) Q E s:=by
 refine Calls.call_function_entry kind_sorted plain_sorted entry_sorted (args_sorted1 _) ?_
 unfold Builtin.«sorted»
 refine wpAny_bind (m:=checkCount "sorted" 1 1 _) (wpAny_pure (wpAny_bind (hcol _ _ _ rfl fun vs h1 tk hk hle hw=>?_)))
 obtain ⟨hl,hT⟩:=hW vs hw
 refine wpAny_bind (wpAny_newList ?_)
 have gL:(h1.push (seqObj "list" vs.toArray 0)).get? h1.objs.size=some (seqObj "list" vs.toArray 0):=Heap.get?_push_size _ rfl
 refine wpAny_bind (wpAny_holding (wpAny_call_entry slot_list_sort ⟨_,gL,rfl⟩ entry_list_sort (list_sort_tree gL hT hl fun out ns' a1 a2 a3=>⟨_,rfl,?_⟩) (args_list_sort _)))
 obtain ⟨e,ge⟩:=sortedHeap_at (out:=out) gL
 refine wpAny_pure ⟨_,rfl,h out.toList ns' _ tk _ e a1 a2 a3 (fun b o g=>xZ (fun z=>?_) (Heap.get?_push_of_some _ (hk b o g))) hle (by simpa using ge)⟩
 subst z
 exact absurd (Heap.lt_size (hk _ o g)) (Nat.lt_irrefl _)
end
end L2
namespace L2
open PySem PySem.Spec PyProof.Rows
def Pl:List V->Hp->VK->Prop:=fun xs H Q=>∃ d,xs=[.ref d]/\Bu H d fun o u H2=>∃ (kvs:List (Key × V)) (ns:List Int),u=.dK kvs/\kvs.map (·.1)=ns.map Sum.inl/\ns.length < 64 /\
 ∀ l (ns':List Int),ns'.Perm ns->ns'.Pairwise (·<=·)->H2 l=none->Q (.ref l) (upd H2 l (.lst (ns'.map V.int)))
theorem ints_make:∀ (us:List Value) (ns:List Int),us.length=ns.length->(∀ (i:Nat) u n,us[i]?=some u->ns[i]?=some n->∃ t,u=.int n t)->IntsAre us ns
 | [],[],_,_=>.nil
 | [],_ :: _,h,_=>by cases h
 | _ :: _,[],h,_=>by cases h
 | u :: us,n :: ns,h,k=>by
  obtain ⟨t,rfl⟩:=k 0 u n rfl rfl
  exact .cons n t (ints_make us ns (by simpa using h) fun i v m e1 e2=>k (i + 1) v m (by simpa using e1) (by simpa using e2))
theorem Bq {X:Cx} (hc:X.calm=true):iB X (.builtin "sorted") Pl:=by
 intro pins s σ H xs us Q I r h
 obtain ⟨d,rfl,hq⟩:=h
 obtain ⟨v,rfl,ru⟩:=vals1 r
 cases ru
 obtain ⟨o,u,H2,I2,e,dk,kvs,ns,hu,hks,h64,q⟩:=hq.go I
 obtain ⟨raw,hlen,hs,hz,at'⟩:=Nh I2.hok e dk
 have hd:=I2.ok.hd hc
 have hkl:kvs.length=ns.length:=by have:=congrArg List.length hks;simpa using this
 have hnl:EY u=ns.length:=by rw [hu];exact hkl
 refine CQ (W:=fun vs=>∃ acc:Array Value,vs=acc.toList/\ItemsOf (fun i v=>∃ en,(qX o)[i]?=some en/\v=en.key) acc (qX o).size) (ns:=ns)
  (fun A' E' R hA hk=>Dg (MQ hs (qX o) (Dr o)) (hA.trans hd) raw (by rw [hlen];exact hz) fun h1 tk acc kk hle ha=>hk acc.toList h1 tk kk hle ⟨acc,rfl,ha⟩) (fun vs hv=>?_) (fun out ns' h1 tk z ee a1 a2 a3 hk hle g=>?_)
 ·obtain ⟨acc,rfl,ha⟩:=hv
  have hl:acc.toList.length=ns.length:=by rw [Array.length_toList,ha.1,hlen,hnl]
  refine ⟨by omega,ints_make _ _ hl fun i v n e1 e2=>?_⟩
  obtain ⟨en,h1,rfl⟩:=ha.2 i v (by rw [<- Array.getElem?_toList];exact e1)
  obtain ⟨kx,_,hK,hV,_⟩:=at' i en h1
  rw [hu] at hK
  obtain ⟨p,hp,rfl⟩:=hK
  have hp1:(kvs.map (·.1))[i]?=some p.1:=by rw [List.getElem?_map,hp];rfl
  rw [hks,List.getElem?_map,e2] at hp1
  have hp2:Sum.inl n=p.1:=by simpa using hp1
  rw [<- hp2] at hV
  exact hV
 ·have hn:H2 z=none:=I2.hok.fresh hle
  have hlo:out.length=ns'.length:=by have:=(U2.y6 a1).length;rw [List.length_map] at this;exact this.symm
  have hl':ns'.length=ns.length:=a2.length_eq
  exact ⟨.ref z,upd H2 z (.lst (ns'.map V.int)),I2.laid (t':=tk) hk hle ⟨by rw [List.length_map,hl'];exact Nat.le_trans (Nat.le_of_lt h64) (by decide),out,ee,U2.y6 a1,g⟩,rfl,q z ns' a2 a3 hn⟩
end L2
namespace U2
open PySem PySem.Spec PyProof.Rows L2
def xC (o:Bool):List U->aF->UK->Prop:=fun us M Q=>match us with
 | [.dic ks false _]=>∃ ns:List Int,ks=ns.map (fun n=>[Sum.inl n])/\ns.length < 64/\∀ ns':List Int,ns'.Perm ns->ns'.Pairwise (·<=·)->j2 o (ns'.map U.int) M Q
 | _=>False
theorem LG (own:Bool:=false) {D:Dat}:tT D (.builtin "sorted") (xC own):=⟨⟨_,fun X h=>Bq h.calm,fun xs us H M Q' rm rus h Q c=>by
 unfold xC at h
 split at h
 ·rename_i ks ws
  obtain ⟨ns,hks,h64,q⟩:=h
  obtain ⟨v,rfl,a1⟩:=rus.one
  obtain ⟨d,rfl,f⟩:=J2 (R:=fun d o u H2=>∃ (kvs:List (Key × V)) (ns:List Int),u=.dK kvs/\kvs.map (·.1)=ns.map Sum.inl/\ns.length < 64/\∀ l (ns':List Int),ns'.Perm ns->ns'.Pairwise (·<=·)->H2 l=none->Q (.ref l) (upd H2 l (.lst (ns'.map V.int)))) rm a1 fun a o u H2 vs hv st rm2 e m dk r=>by
   obtain ⟨ws',rfl,hw,_⟩:∃ kw,u=.dK kw/\ks=kw.map (fun p=>[p.1])/\vs=kw.map (·.2):=id dk
   refine ⟨ws',ns,rfl,?_,h64,fun l ns' p1 p2 hl=>(c.stp st).lst rm2 (wM ns') hl (q ns' p1 p2)⟩
   rw [hks] at hw
   have:=congrArg (List.map fun l:List Key=>l.head?) hw
   simp only [List.map_map] at this
   have e1:∀ l:List Int,l.map ((fun l:List Key=>l.head?) ∘ fun n=>[Sum.inl n])=(l.map (Sum.inl:Int->Key)).map some:=fun l=>by simp
   have e2:∀ l:List (Key × V),l.map ((fun l:List Key=>l.head?) ∘ fun p=>[p.1])=(l.map (·.1)).map some:=fun l=>by simp
   rw [e1,e2] at this
   exact (List.map_inj_right (fun _ _ h=>Option.some.inj h)).mp this.symm
  exact ⟨d,rfl,f⟩
 ·exact h.elim⟩⟩
def xI (ta:UA):UI:=fun τ M R=>ta τ M fun us M1=>match us with
 | [.lst us,.tup ws]=>R ⟨none,dP us ws⟩ M1
 | _=>False
theorem HG {K:PySem.W.Frag} {ta:TA} {ta':UA} (h:j5 K ta ta'):rF K (F3 true false K ta) (xI ta'):=fun σ τ H M R' rs rm q R c=>h σ τ H M _ rs rm q _ fun us vs M1 H1 s1 rm1 ru h1=>by
 split at h1
 ·obtain ⟨v,vs',rfl,a,b⟩:=ru.inv_cons
  obtain ⟨v2,rfl,a2⟩:=b.one
  simp only [aJ] at a a2
  obtain ⟨a,vs,rfl,m,r⟩:=a
  obtain ⟨a',vs',rfl,m',r'⟩:=a2
  exact ⟨a,a',rfl,⟨vs,B5 m _ _ (aR.refl _ _)⟩,⟨vs',BV m' _ _ (aR.refl _ _)⟩,c _ _ M1 H1 s1 rm1 (vY (B5 m) (BV m') r r') h1⟩
 ·exact h1.elim
theorem A7 {D:Dat} {elts:List Expr} {kk:Nat} {tpos:Pos} {a b:Expr} {p pos:Pos} {ta:UA} (hm:D.mg "zip"=none) (ha:lP D [a,b] ta) (hg:D.sc.names.lookup ("zip":Str)=some .globalImplicit:=by rfl) (hs:∀ env,starEach [a,b] env=[(false,eval a env),(false,eval b env)]:=by intro _;rfl) (hs2:∀ env,starEach [b] env=[(false,eval b env)]:=by intro _;rfl):rM D (.Tuple elts kk tpos) (.Call (.Name "zip" p) [a,b] [] pos) (xI ta):=by
 obtain ⟨_,q,s⟩:=ha
 exact ⟨_,fun X h=>h.K ▸ BI (by show X.env.scope.names.lookup _=_;rw [h.sc];exact hg) (by rw [h.mg];exact hm) (q X h) (hs _) (hs2 _),HG s⟩
end U2
namespace U2
open PySem PySem.Spec PyProof.Rows L2
section
variable {prog:Program} {w:World} {A:Around} {E:Value->Shared->Prop} {s:Shared} {r:Addr} {a b:Int} {t u v:Tok}
end
section
variable {X:Cx} {tg a b e:Expr} {ta:TA} {te:TE} {p pos:Pos}
end
section
variable {D:Dat} {tg a b:Expr} {p p2 pos pos2:Pos} {ta:UA}
end
end U2
namespace U2
open PySem PySem.Spec PyProof.Rows L2
section
variable {X:Cx}
end
end U2
namespace L2
open PySem PySem.Spec PyProof.Rows
def yM (σ:List Str) (v:Str):List Str:=if σ.any (· == v) then σ else σ++[v]
def iC (l:List Str):List Str:=l.foldl yM []
theorem sT (l:List Str) (v:Str):iC (l++[v])=yM (iC l) v:=by simp [iC,List.foldl_append]
theorem Ce (σ:List Str) (v:Str):(yM σ v).length=if σ.any (· == v) then σ.length else σ.length + 1:=by
 unfold yM;split <;> simp
theorem BU (σ:List Str) (v k:Str):(yM σ v).any (· == k)=(σ.any (· == k) || decide (k=v)):=by
 unfold yM
 by_cases h:σ.any (· == v)=true
 ·rw [if_pos h]
  by_cases e:k=v
  ·subst e;simp [h]
  ·simp [e]
 ·rw [if_neg h,List.any_append]
  by_cases e:k=v
  ·subst e;simp
  ·have:(v == k)=false:=by simpa using fun z:v=k=>e z.symm
   simp [this,e]
theorem snoc_ind {P:List Str->Prop} (h0:P []) (h1:∀ l v,P l->P (l++[v])) (l:List Str):P l:=by
 have:∀ r:List Str,P r.reverse:=by
  intro r
  induction r with
  | nil=>exact h0
  | cons a r ih=>rw [List.reverse_cons];exact h1 _ _ ih
 have:=this l.reverse
 rwa [List.reverse_reverse] at this
theorem Rv (l:List Str) (k:Str):(iC l).any (· == k)=decide (k∈l):=by
 refine snoc_ind (P:=fun l=>(iC l).any (· == k)=decide (k∈l)) (by simp [iC]) (fun l v ih=>?_) l
 rw [sT,BU,ih];by_cases h:k∈l <;> by_cases e:k=v <;> simp [h,e]
theorem N7 (l:List Str):(iC l).length<=l.length:=by
 refine snoc_ind (P:=fun l=>(iC l).length<=l.length) (by simp [iC]) (fun l v ih=>?_) l
 rw [sT,Ce,List.length_append,List.length_singleton];split <;> omega
section
variable {prog:Program} {w:World} {A:Around} {I:Addr} {fp wr:List Addr} {G:Array GenState->Array GenState->Prop} {n:Nat} {P:Nat->Value->Prop} {St:Nat->Shared->Prop} {R:Result->Shared->Prop}
theorem Ij (W:WalksS prog w A.in1 I fp wr G n P St) (S:Addr) (hSf:S ∉ fp) (l:List Str) (hl:l.length=n) (hval:∀ i v,P i v->∃ x t,l[i]?=some x/\v=.str x t) (hb:n + 1 < scanBound) :
  ∀ (k i:Nat) (s:Shared),n - i=k->i<=n->St i s->s.heap.SetOf (strKind prog w) S (fun y=>(iC (l.take i)).any (· == y)) (iC (l.take i)).length ->
   (∀ s',Moved (S :: wr) G s s'->s'.heap.SetOf (strKind prog w) S (fun y=>(iC l).any (· == y)) (iC l).length->R (.ok (.ret .none)) s') ->
   codeAny (model prog w) A (.builtin "set.update.loop" ⟨[.ref S,.ref I],[]⟩) R s:=by
 have hSw:S ∉ wr:=fun h=>hSf (W.sub _ h)
 have up:∀ b∈wr,b∈S :: wr:=fun b hb=>List.mem_cons_of_mem _ hb
 have keep:∀ {s s':Shared} {T:Str->Bool} {m:Nat},Moved wr G s s'->s.heap.SetOf (strKind prog w) S T m->s'.heap.SetOf (strKind prog w) S T m:=by
  intro s s' T m hm h
  obtain ⟨o,es,ep,t,ho,rest⟩:=h
  exact ⟨o,es,ep,t,hm.heap S _ hSw ho,rest⟩
 intro k
 induction k with
 | zero =>
  intro i s hk hi hst hS hR
  obtain rfl:i=n:=by omega
  refine codeAny_builtin F.entry_set_update_loop ?_
  rw [Around.under_plainId F.plain_set_update_loop _]
  show wpAny _ A.in1 (pyNext (.ref I) >>= _) _ _ s
  refine wpAny_bind (W.done s _ _ hst fun s' hm=>?_)
  show wpAny _ A.in1 (ret Value.none) _ _ s'
  refine wpAny_pure (hR s' (hm.mono up) (keep hm ?_))
  rw [List.take_of_length_le (by omega)] at hS
  exact hS
 | succ k ih =>
  intro i s hk hi hst hS hR
  have hlt:i < n:=by omega
  refine codeAny_builtin F.entry_set_update_loop ?_
  rw [Around.under_plainId F.plain_set_update_loop _]
  show wpAny _ A.in1 (pyNext (.ref I) >>= _) _ _ s
  refine wpAny_bind (W.item i s _ _ hlt hst fun v s' hP hst' hm=>?_)
  obtain ⟨x,t,hx,rfl⟩:=hval i v hP
  have hS':=keep hm hS
  show wpAny _ A.in1 (holding [Value.str x t] (setAdd S (.str x t)) >>= _) _ _ s'
  refine wpAny_bind (wpAny_holding ?_)
  unfold setAdd
  refine wpAny_holding ?_
  refine wpAny_bind ((strKind prog w).pyHash (k:=x) (strKind_is _ _ _ _) ?_)
  have hroom:(iC (l.take i)).length + 1 < scanBound:=by have:=N7 (l.take i);rw [List.length_take] at this;omega
  refine wpAny_setAddHashed_of (knd:=strKind prog w) (s:={ s' with toks:=s'.toks + 1 }) (strKind_is _ _ _ _) rfl hS' hroom fun h' hsb hS2=>?_
  have e1:l.take (i + 1)=l.take i++[x]:=by rw [List.take_succ,hx];rfl
  have hSi:h'.SetOf (strKind prog w) S (fun y=>(iC (l.take (i + 1))).any (· == y)) (iC (l.take (i + 1))).length :=
   SetOf_congr hS2 (fun y=>by rw [e1,sT,BU]) (by rw [e1,sT,Ce])
  refine wpAny_pure ⟨plainId_quiet F.plain_set_update_loop _,ih (i + 1) _ (by omega) hlt (W.frame _ s' _ _ hst' (Nat.le_succ _) fun b hb o e=>?_) hSi fun s2 hm2 hS3=>?_⟩
  ·rw [hsb.2 b (fun h:b=S=>hSf (by rw [<- h];exact hb))];exact e
  ·refine hR s2 (Moved.trans W.gtrans ((hm.mono up).then_heap (Nat.le_succ _) fun b o hb e=>?_) hm2) hS3
   rw [hsb.2 b (fun h:b=S=>hb (by rw [h];exact List.mem_cons_self))];exact e
end
section
variable {prog:Program} {w:World} {A:Around} {E:Value->Shared->Prop} {s:Shared}
def pN (led:Bool):Obj:={ cls:=.type "set",dict:=none,data:=.set #[] 0 (.fresh 0 0 led) }
def En (T:String) (h:Heap) (a:Addr) (items:Array Value):Prop:=∃ o,h.get? a=some o/\o.cls=.type T/\∃ n,o.data=.seq items n
theorem Af {T:String} {ito:Obj} {St:Addr->Nat->Heap->Prop} {a:Addr} {items:Array Value} {l:List Str} {Q:Value->Shared->Prop} (hh:A.handled=none) (ha:En T s.heap a items)
  (g1:isSubtype (.type T) (.type "set")=pure false) (g2:isSubtype (.type T) (.type "frozenset")=pure false) (hne:(Value.type T == Value.type "dict")=false)
  (hit:∀ {A':Around} {E':Value->Shared->Prop} {s':Shared} {Q':Value->Shared->Prop},En T s'.heap a items->Q' (.ref s'.heap.objs.size) { s' with heap:=s'.heap.push ito }->wpAny (model prog w) A' (pyIter (.ref a)) Q' E' s')
  (hwk:∀ {A':Around},A'.handled=none->∀ I,a≠I->Walks prog w A' I [I,a] [I] items.size (fun i v=>items[i]?=some v) (St I))
  (hst:∀ h:Heap,En T h a items->St h.objs.size 0 (h.push ito)) (hs:items.size=l.length) (hi:∀ (i:Nat) v,items[i]?=some v->∃ x t,l[i]?=some x/\v=.str x t) (hb:l.length + 1 < scanBound)
  (h:∀ (h':Heap) (tk:Nat),h'.SetOf (strKind prog w) s.heap.objs.size (fun y=>(iC l).any (· == y)) (iC l).length->(∀ b o,b < s.heap.objs.size->s.heap.get? b=some o->h'.get? b=some o)->Q (.ref s.heap.objs.size) { s with heap:=h',toks:=tk }) :
  wpAny (model prog w) A (call (.type "set") [.ref a]) Q E s:=by
 obtain ⟨c,tl,hmro⟩:=F.called_set.mro
 have hmade:=F.called_set.made
 have hsub:=F.called_set.sub
 refine wpAny_call (codeAny_of_tree ?_)
 show wpAny _ _ (callAny (.type "set") _) _ _ _
 refine wpAny_pure ⟨Code.quiet_builtin _ (by decide +kernel),codeAny_builtin F.entry_type_call ?_⟩
 rw [Around.under_plain (weight_type_call_type "set" [.ref a] []) rfl]
 have h1:=F.called_set.notType
 have h2:=F.called_set.canCreate
 have hct:=F.typeCall_set_1 (.ref a)
 repeat (any_goals (first | assumption | wp_step))
 refine codeAny_mono (code_set_new_1 (.ref a) (E:=E) (Q₁:=fun obj s1=>∃ led:Bool,obj=.ref s.heap.objs.size/\s1={ s with heap:=s.heap.push (pN led) }) fun led=>⟨led,rfl,rfl⟩) fun r s1 hr=>?_
 cases r with
 | error e=>exact hr
 | ok fl =>
  cases fl with
  | ret obj =>
   obtain ⟨led,rfl,rfl⟩:=hr
   have hS:(s.heap.push (pN led)).get? s.heap.objs.size=some (pN led):=Heap.get?_push_size _ rfl
   have hT:Shared.TypeIs { s with heap:=s.heap.push (pN led) } (.ref s.heap.objs.size) "set":=⟨_,hS,rfl⟩
   have hli:=F.called_set.init.lookup
   have hbi:=F.called_set.init.bind (.ref s.heap.objs.size)
   repeat (any_goals (first | assumption | wp_step))
   have hlt:a < s.heap.objs.size:=by obtain ⟨o,ho,_⟩:=ha;exact Heap.lt_size ho
   refine codeAny_mono (codeAny_call_builtin (R:=wants (fun r s2=>r=.none/\∃ h' tk,s2={ s with heap:=h',toks:=tk } /\
     h'.SetOf (strKind prog w) s.heap.objs.size (fun y=>(iC l).any (· == y)) (iC l).length/\(∀ b o,b < s.heap.objs.size->s.heap.get? b=some o->h'.get? b=some o)) E) F.called_set.init.plain F.entry_set_init (check_set_init_1 hT ?_)) fun r2 s2 hr2=>?_
   ·obtain ⟨ol,hol,hcl,nl,hdl⟩:=ha
    obtain ⟨ocls,odict,odata,oslots⟩:=ol
    simp only at hcl hdl
    subst hcl;subst hdl
    have hol':(s.heap.push (pN led)).get? a=some { cls:=.type T,dict:=odict,data:=.seq items nl,slots:=oslots }:=Heap.get?_push_of_some _ hol
    have hl1:En T (s.heap.push (pN led)) a items:=⟨_,hol',rfl,nl,rfl⟩
    unfold Builtin.«set.__init__» noKeywords Builtin.Frozenset.updateFrom
    generalize hPI:pyIter=PI
    wp_walk
    subst hPI
    refine hit hl1 ?_
    refine wpAny_bind (wpAny_runValue ?_)
    have hh3:A.in1.in1.in1.handled=none:=by simp [hh]
    have hsz:(s.heap.push (pN led)).objs.size=s.heap.objs.size + 1:=Heap.size_push _ _
    refine Ij ((hwk hh3 _ (by rw [hsz];exact Nat.ne_of_lt (Nat.lt_succ_of_lt hlt))).toS) s.heap.objs.size (by rw [hsz];simp only [List.mem_cons,List.not_mem_nil,or_false,not_or];exact ⟨Nat.ne_of_lt (Nat.lt_succ_self _),Nat.ne_of_gt hlt⟩) l hs.symm hi (by omega) (items.size - 0) 0 _ (by omega) (Nat.zero_le _) (hst _ hl1) ?_ ?_
    ·exact SetOf_congr ((setObjOf_fresh (knd:=strKind prog w) led).setOf (Heap.get?_push_of_some _ hS) (by unfold scanBound;omega)) (fun _=>by simp [iC]) (by simp [iC])
    ·intro s' hm hS'
     obtain ⟨h',g',d',tk',os'⟩:=s'
     have eg:g'=s.gens:=hm.gens
     have ed:d'=s.drawn:=hm.drawn
     have eo:os'=s.os:=hm.os
     subst eg;subst ed;subst eo
     show wpAny _ _ _ _ _ _
     refine wpAny_pure ?_
     show wpAny _ _ (ret Value.none) _ _ _
     refine wpAny_pure ⟨rfl,h',tk',rfl,hS',fun b o hb e=>?_⟩
     exact hm.heap b o (by rw [hsz];simp only [List.mem_cons,List.not_mem_nil,or_false,not_or];exact ⟨Nat.ne_of_lt hb,Nat.ne_of_lt (Nat.lt_succ_of_lt hb)⟩) (Heap.get?_push_of_some _ (Heap.get?_push_of_some _ e))
   ·cases r2 with
    | error e=>exact hr2
    | ok fl2 =>
     cases fl2 with
     | ret r =>
      obtain ⟨rfl,h',tk,rfl,hS',hk'⟩:=hr2
      repeat (any_goals (first | assumption | wp_step))
      exact h _ _ hS' hk'
     | _=>exact hr2.elim
  | _=>exact hr.elim
theorem Hl {a:Addr} {items:Array Value} {l:List Str} {Q:Value->Shared->Prop} (hh:A.handled=none) (ha:s.heap.IsList a items) (hs:items.size=l.length) (hi:∀ (i:Nat) v,items[i]?=some v->∃ x t,l[i]?=some x/\v=.str x t) (hb:l.length + 1 < scanBound)
  (h:∀ (h':Heap) (tk:Nat),h'.SetOf (strKind prog w) s.heap.objs.size (fun y=>(iC l).any (· == y)) (iC l).length->(∀ b o,b < s.heap.objs.size->s.heap.get? b=some o->h'.get? b=some o)->Q (.ref s.heap.objs.size) { s with heap:=h',toks:=tk }) :
  wpAny (model prog w) A (call (.type "set") [.ref a]) Q E s :=
 Af (T:="list") (St:=fun I i h=>h.IsListIter I a i/\h.IsList a items) hh ha F.sub_list_set F.sub_list_frozenset (by decide) (fun hl q=>wpAny_pyIter_list hl q) (fun hn I ne=>Walks.list hn I a ne items) (fun h hl=>⟨⟨_,Heap.get?_push_size _ rfl,rfl,rfl⟩,Heap.IsList.push hl _⟩) hs hi hb h
end
end L2
namespace L2
open PySem PySem.Spec PyProof.Rows
theorem DN {ns:List Str}:∀ {us:List Value},Vals (ns.map V.str) us->us.length=ns.length/\∀ (i:Nat) v,us[i]?=some v->∃ x t,ns[i]?=some x/\v=.str x t:=by
 induction ns with
 | nil=>intro us r;cases r;exact ⟨rfl,fun i v h=>by simp at h⟩
 | cons n ns ih =>
  intro us r
  rw [List.map_cons] at r
  cases r with
  | cons r1 r2 =>
   obtain ⟨t,rfl⟩:=r1
   obtain ⟨h1,h2⟩:=ih r2
   refine ⟨by simp [h1],fun i v h=>?_⟩
   cases i with
   | zero=>simp at h;exact ⟨n,t,rfl,h.symm⟩
   | succ i=>simp at h;exact h2 i v h
theorem boot_set:bootBuiltins "set"=some (.type "set"):=by kernel_rfl
theorem Ih:bootBuiltins "len"=some (.builtin "len"):=by kernel_rfl
section
variable {X:Cx} {a:Expr} {ta:TA} {p p2 pos pos2:Pos}
end
end L2
namespace U2
open PySem PySem.Spec PyProof.Rows L2
theorem vL {K:PySem.W.Frag} {H:Hp} {M:aF}:∀ {ss:List Str} {vs:List V},aI K H M (ss.map U.str) vs->vs=ss.map V.str
 | [],vs,r=>r.inv_nil
 | s :: ss,vs,r=>by
  obtain ⟨v,vs',rfl,a,b⟩:=aI.inv_cons r
  rw [a.str,vL b];rfl
section
variable {D:Dat} {a:Expr} {ta:UA} {pos p p2 pos2:Pos}
end
end U2
namespace L2
open PySem PySem.Spec PyProof.Rows
section
variable {prog:Program} {w:World} {A:Around} {E:Value->Shared->Prop} {s:Shared}
theorem Gv {a:Addr} {items:Array Value} {l:List Str} {Q:Value->Shared->Prop} (hh:A.handled=none) (ha:s.heap.IsTuple a items) (hs:items.size=l.length) (hi:∀ (i:Nat) v,items[i]?=some v->∃ x t,l[i]?=some x/\v=.str x t) (hb:l.length + 1 < scanBound)
  (h:∀ (h':Heap) (tk:Nat),h'.SetOf (strKind prog w) s.heap.objs.size (fun y=>(iC l).any (· == y)) (iC l).length->(∀ b o,b < s.heap.objs.size->s.heap.get? b=some o->h'.get? b=some o)->Q (.ref s.heap.objs.size) { s with heap:=h',toks:=tk }) :
  wpAny (model prog w) A (call (.type "set") [.ref a]) Q E s :=
 Af (T:="tuple") (St:=fun I i h=>h.IsTupleIter I a i/\h.IsTuple a items) hh ha F.sub_tuple_set F.sub_tuple_frozenset (by decide) (fun hl q=>wpAny_pyIter_tuple hl q) (fun hn I ne=>Walks.tuple hn I a ne items) (fun h hl=>⟨⟨_,Heap.get?_push_size _ rfl,rfl,rfl⟩,Heap.IsTuple.push hl _⟩) hs hi hb h
end
def Bl (K:PySem.W.Frag) (ta:TA):TE:=fun σ H Q=>ta σ H fun vs H1=>∃ a ss,vs=[.ref a]/\(eO K H1 a (ss.map V.str)\/fW K H1 a (ss.map V.str))/\ss.length < 1000/\Q (.int (iC ss).length) H1
section
variable {X:Cx} {a:Expr} {ta:TA} {p p2 pos pos2:Pos}
theorem FO (hc:X.calm=true) (hg:Gl X "len") (hm:X.mg "len"=none) (hg2:Gl X "set") (hm2:X.mg "set"=none) (ha:PA X [a] ta) (hs:starEach [a] X.env=[(false,eval a X.env)]) (hs2:starEach [.Call (.Name "set" p2) [a] [] pos2] X.env=[(false,eval (.Call (.Name "set" p2) [a] [] pos2) X.env)]) :
  PE X (.Call (.Name "len" p) [.Call (.Name "set" p2) [a] [] pos2] [] pos) (Bl X.K ta):=by
 intro pins s σ H Q I h
 refine wpAny_Call_Name_kw (jO I hg hm Ih ?_)
 refine PyProof.Rows.callWith_builtin1 ?_ hs2 rfl
 rw [hs2]
 show wpAny _ _ (spliced ((false,eval (.Call (.Name "set" p2) [a] [] pos2) X.env) :: backTo pos [])) _ _ s
 refine Calls.spliced_cons (wpAny_Call_Name_kw (jO I hg2 hm2 boot_set (PyProof.Rows.callWith_type1 (bG (ha pos2 pins s σ H _ I h) fun us s1 ⟨vs,H1,I1,r1,q1⟩=>?_) hs rfl)))
 obtain ⟨b,ss,rfl,hq,hlt,q⟩:=q1
 obtain ⟨u,rfl,rx⟩:=vals1 r1
 cases rx
 rcases hq with hq | hq
 ·obtain ⟨its,r',pl,hz⟩:=I1.list hq
  obtain ⟨e1,e2⟩:=DN r'
  refine Hl (I1.ok.hd hc) pl.isList (l:=ss) (by simpa using e1) (fun i v hv=>e2 i v (by simpa using hv)) (by unfold scanBound;omega) fun h' tk hS hk=>?_
  refine Calls.spliced_nil ?_
  obtain ⟨o,es,ep,t,ho,hex,hd,_,_,hb,hf,hn⟩:=hS
  refine call_len_set (s:={ s1 with heap:=h',toks:=tk }) ho hex hd hf (by have:=hb;unfold scanBound at this;omega) ?_
  refine ⟨.int (iC ss).length,H1,?_,⟨_,by rw [hn]⟩,q⟩
  exact I1.kept fun b o e=>hk b o (Heap.lt_size e) e
 ·obtain ⟨its,r',pl,hz⟩:=I1.tuple hq
  obtain ⟨e1,e2⟩:=DN r'
  refine Gv (items:=its.toArray) (I1.ok.hd hc) pl (l:=ss) (by simpa using e1) (fun i v hv=>e2 i v (by simpa using hv)) (by unfold scanBound;omega) fun h' tk hS hk=>?_
  refine Calls.spliced_nil ?_
  obtain ⟨o,es,ep,t,ho,hex,hd,_,_,hb,hf,hn⟩:=hS
  refine call_len_set (s:={ s1 with heap:=h',toks:=tk }) ho hex hd hf (by have:=hb;unfold scanBound at this;omega) ?_
  refine ⟨.int (iC ss).length,H1,?_,⟨_,by rw [hn]⟩,q⟩
  exact I1.kept fun b o e=>hk b o (Heap.lt_size e) e
end
end L2
namespace U2
open PySem PySem.Spec PyProof.Rows L2
def BJ (ta:UA):UE:=fun τ M Q=>ta τ M fun us M1=>match us with
 | [x]=>match items M1 x with
  | some ws=>∃ ss:List Str,ws=ss.map U.str/\ss.length < 1000/\Q (.int (iC ss).length) M1
  | _=>False
 | _=>False
section
variable {D:Dat} {a:Expr} {ta:UA} {pos p p2 pos2:Pos}
theorem E3 (hm:D.mg "len"=none) (hm2:D.mg "set"=none) (ha:lP D [a] ta) (hg:D.sc.names.lookup ("len":Str)=some .globalImplicit:=by rfl) (hg2:D.sc.names.lookup ("set":Str)=some .globalImplicit:=by rfl) (hs:∀ env,starEach [a] env=[(false,eval a env)]:=by intro _;rfl)
  (hs2:∀ env,starEach [.Call (.Name "set" p2) [a] [] pos2] env=[(false,eval (.Call (.Name "set" p2) [a] [] pos2) env)]:=by intro _;rfl):aV D (.Call (.Name "len" p) [.Call (.Name "set" p2) [a] [] pos2] [] pos) (BJ ta):=by
 obtain ⟨t,q,s⟩:=ha
 refine ⟨Bl D.K t,fun X h=>by have:=FO (p:=p) (p2:=p2) (pos:=pos) (pos2:=pos2) h.calm (by show X.env.scope.names.lookup _=_;rw [h.sc];exact hg) (by rw [h.mg];exact hm) (by show X.env.scope.names.lookup _=_;rw [h.sc];exact hg2) (by rw [h.mg];exact hm2) (q X h) (hs _) (hs2 _);rw [h.K] at this;exact this,fun σ τ H M Q' rs rm h Q c=>?_⟩
 refine s σ τ H M _ rs rm h _ fun us vs M1 H1 s1 rm1 ru h1=>?_
 split at h1
 ·obtain ⟨v,rfl,a1⟩:=ru.one
  split at h1
  ·rename_i ws e
   obtain ⟨ss,rfl,hl,q⟩:=h1
   obtain ⟨b,zvs,rfl,s2,r2⟩:=zE rm1 a1 e
   rw [vL r2] at s2
   exact ⟨b,ss,rfl,s2,hl,c _ _ M1 H1 s1 rm1 cT q⟩
  ·exact h1.elim
 ·exact h1.elim
end
end U2
namespace U2
open PySem PySem.Spec PyProof.Rows L2
section
variable {prog:Program} {w:World} {A:Around} {E:Value->Shared->Prop} {s:Shared}
theorem FU {R:Result->Shared->Prop} {it l:Addr} {items:Array Value} (hh:A.handled=none) (hit:iQ s.heap it l ((items.size:Int) - 1)) (hl:IsTup s.heap l items) (hne:l≠it) (hlen:items.size<=sizeLine) (S:Addr) (res:Value) (c₀:Nat)
  (hS:s.heap.get? S=some { cls:=.type "list",data:=.seq #[] c₀ }) (hSl:S≠l) (hSi:S≠it)
  (hR:∀ h' tk acc' c',(∀ b o,b≠S->b≠it->s.heap.get? b=some o->h'.get? b=some o)->h'.get? S=some { cls:=.type "list",dict:=none,data:=.seq acc' c',slots:=#[] } ->
   ItemsOf (fun i v=>items[items.size - 1 - i]?=some v) acc' items.size->R (.ok (.ret res)) { s with heap:=h',toks:=tk }) :
  wpAny (model prog w) A.in1 (Builtin.List.listExtendWith (.ref S) (.ref it) res)
   (fun fin s'=>match fin with | .done f=>R (.ok f) s' | .again c'=>c'.quiet=true/\codeAny (model prog w) A c' R s') (fun e s'=>R (.error e) s') s:=by
 have hz:(items.size:Int) < 2 ^ 63:=by have:sizeLine=2 ^ 24:=rfl;omega
 have hSf:S ∉ [it,l]:=fun hm=>by
  rcases List.mem_cons.mp hm with e | hm
  ·exact hSi e
  ·exact hSl (List.mem_singleton.mp hm)
 have W:=(GX (prog:=prog) (w:=w) (A:=A.in1) hh it l hne items hz).toS
 have e0:((items.size:Int) - 1 - ((0:Nat):Int))=(items.size:Int) - 1:=by omega
 have hst:(0<=items.size/\iQ s.heap it l ((items.size:Int) - 1 - ((0:Nat):Int))/\IsTup s.heap l items):=⟨Nat.zero_le _,by rw [e0];exact hit,hl⟩
 have hT1:=hit.typeIs
 have h1:Builtin.List.listSameRef (.ref S) (.ref it)=false:=by simp [Builtin.List.listSameRef,hSi]
 have h2:(Value.type "reversed" == Value.type "list")=false:=by decide
 have h3:(Value.type "reversed" == Value.type "tuple")=false:=by decide
 unfold Builtin.List.listExtendWith
 refine wpAny_bind (wpAny_typeOf hT1 ?_)
 simp only [h1,h2,h3,Bool.or_false,Bool.false_eq_true,if_false]
 refine wpAny_bind (W.self 0 _ _ _ hst ?_)
 refine wpAny_bind (wpAny_holding ?_)
 unfold Builtin.List.listLengthHint
 refine wpAny_bind (wpAny_specialOf hT1 GI ?_)
 show wpAny _ A.in1 (specialOf (Value.ref it) (Str.ofString "__length_hint__") >>= _) _ _ _
 refine wpAny_bind (wpAny_specialOf hT1 oB.lookup ?_)
 generalize hid:("reversed.__length_hint__":String)=id0
 wp_delta
 rw [show splitId id0=some ("reversed","__length_hint__") from by subst hid;decide +kernel]
 subst hid
 refine wpAny_bind (wpAny_isInstance (b:=true) hT1 F.sub_reversed_self ?_)
 rw [if_neg (by decide)]
 show wpAny _ A.in1 (if PySem.Builtin.List.listTooLong 0=true then _ else _) _ _ _
 rw [if_neg (by decide)]
 refine wpAny_bind (wpAny_rule ?_)
 refine wpAny_bind (wpAny_of_eq (oB.bind _) ?_)
 dsimp only
 refine wpAny_bind (wpAny_attempt (IL (items:=items) hit hl hz fun tk u htk=>?_))
 dsimp only
 have f1:Builtin.List.listFitsIndex (items.size:Int)=true:=by unfold Builtin.List.listFitsIndex;simp;omega
 have f2:¬ (items.size:Int) < 0:=by omega
 have f3:Builtin.List.listTooLong (items.size:Int).toNat=false:=by rw [Int.toNat_natCast];unfold Builtin.List.listTooLong;simp;omega
 have hst₂:=W.frame 0 _ _ tk hst htk fun b _ o e=>e
 generalize hnn:(items.size:Int)=nn at f1 f2 f3
 clear hnn
 refine wpAny_bind (wpAny_of_eq (a:=some nn) rfl ?_)
 dsimp only
 rw [if_neg (by rw [f1];decide),if_neg f2,if_neg (by rw [f3];decide)]
 refine wpAny_pure ?_
 have fin:∀ (s':Shared) acc' c',Moved (S :: [it]) (fun a b=>b=a) ({ s with toks:=tk }:Shared) s'->s'.heap.get? S=some { cls:=.type "list",dict:=none,data:=.seq acc' c',slots:=#[] }->ItemsOf (fun i v=>items[items.size - 1 - i]?=some v) acc' items.size->R (.ok (.ret res)) s':=fun s' acc' c' hm hS' hacc=>by
  rw [Moved.eq_with hm]
  refine hR s'.heap s'.toks acc' c' (fun b o hb hb2 e=>hm.heap b o (fun hmem=>?_) e) hS' hacc
  rcases List.mem_cons.mp hmem with e' | hmem
  ·exact hb e'
  ·exact hb2 (List.mem_singleton.mp hmem)
 generalize (nn != 0)=bb
 cases bb with
 | false =>
  rw [if_neg (by decide)]
  exact wpAny_pure ⟨plainId_quiet F.plain_extend_loop _,codeAny_extend_loopS W hlen S hSf res items.size 0 _ _ _ rfl (Nat.zero_le _) hst₂ hS (ItemsOf.nil _) fun s' acc' c' hm hS' hacc=>fin s' acc' c' hm hS' hacc⟩
 | true =>
  rw [if_pos (by decide)]
  refine wpAny_bind (wpAny_rule ?_)
  refine wpAny_bind ?_
  show wpAny _ A.in1 (updateSeq S (·.push .none) >>= fun _=>updateSeq S (·.pop)) _ _ _
  refine wpAny_bind (wpAny_updateSeq hS rfl ?_)
  have hS₂:=Heap.get?_update_self (Obj.mapSeq (·.push Value.none)) hS rfl
  refine wpAny_updateSeq hS₂ rfl ?_
  have hS₃:=Heap.get?_update_self (Obj.mapSeq (·.pop)) hS₂ rfl
  have oth:∀ b o,b≠S->s.heap.get? b=some o->((s.heap.update S (Obj.mapSeq (·.push Value.none))).update S (Obj.mapSeq (·.pop))).get? b=some o :=
   fun b o hb e=>(Heap.get?_update_other _ _ (Ne.symm hb)).trans ((Heap.get?_update_other _ _ (Ne.symm hb)).trans e)
  refine wpAny_pure ⟨plainId_quiet F.plain_extend_loop _,codeAny_extend_loopS W hlen S hSf res items.size 0 _ _ _ rfl (Nat.zero_le _)
   (W.frame 0 ({ s with toks:=tk }:Shared) _ tk hst₂ (Nat.le_refl _) fun b hb o e=>oth b o (fun h=>hSf (h ▸ hb)) e) hS₃ (ItemsOf.nil _) fun s' acc' c' hm hS' hacc=>?_⟩
  have hm0:Moved (S :: [it]) (fun a b=>b=a) ({ s with toks:=tk }:Shared) { s with heap:=(s.heap.update S (Obj.mapSeq (·.push Value.none))).update S (Obj.mapSeq (·.pop)),toks:=tk } :=
   ⟨fun b o hb e=>oth b o (fun h=>hb (by rw [h];exact List.mem_cons_self)) e,rfl,rfl,rfl,Nat.le_refl _⟩
  exact fin s' acc' c' (Moved.trans W.gtrans hm0 hm) hS' hacc
theorem AB {R:Result->Shared->Prop} {it l:Addr} {items:Array Value} (hh:A.handled=none) (hit:iQ s.heap it l ((items.size:Int) - 1)) (hl:IsTup s.heap l items) (hne:l≠it) (hlen:items.size<=sizeLine) (S:Addr)
  (hS:s.heap.get? S=some { cls:=.type "list",data:=.seq #[] }) (hSl:S≠l) (hSi:S≠it)
  (hR:∀ h' tk acc' c',(∀ b o,b≠S->b≠it->s.heap.get? b=some o->h'.get? b=some o)->h'.get? S=some { cls:=.type "list",dict:=none,data:=.seq acc' c',slots:=#[] } ->
   ItemsOf (fun i v=>items[items.size - 1 - i]?=some v) acc' items.size->R (.ok (.ret .none)) { s with heap:=h',toks:=tk }) :
  wpAny (model prog w) A.in1 (Builtin.«list.__init__» ⟨[.ref S,.ref it],[]⟩)
   (fun fin s'=>match fin with | .done f=>R (.ok f) s' | .again c'=>c'.quiet=true/\codeAny (model prog w) A c' R s') (fun e s'=>R (.error e) s') s:=by
 show wpAny _ _ (do let old <- Builtin.List.listItems (.ref S);Builtin.List.listUpdate (.ref S) (fun _=>#[]);letGo old.toList.reverse;Builtin.List.listExtendWith (.ref S) (.ref it) .none) _ _ s
 refine wpAny_bind ?_
 unfold Builtin.List.listItems
 refine wpAny_bind (wpAny_seqItems hS rfl (wpAny_pure ?_))
 show wpAny _ _ (updateSeq S (fun _=>#[]) >>= fun _=>letGo (#[]:Array Value).toList.reverse >>= fun _=>Builtin.List.listExtendWith (.ref S) (.ref it) .none) _ _ s
 refine wpAny_bind (wpAny_updateSeq hS rfl ?_)
 have hS₂:=Heap.get?_update_self (Obj.mapSeq (fun _=>(#[]:Array Value))) hS rfl
 have oth:∀ b o,b≠S->s.heap.get? b=some o->(s.heap.update S (Obj.mapSeq (fun _=>(#[]:Array Value)))).get? b=some o :=
  fun b o hb e=>(Heap.get?_update_other _ _ (Ne.symm hb)).trans e
 refine wpAny_bind (wpAny_letGo ?_)
 refine FU hh (hit.at fun o e=>oth it o (Ne.symm hSi) e) (let ⟨o,ho,r⟩:=hl;⟨o,oth l o (Ne.symm hSl) ho,r⟩) hne hlen S .none _ hS₂ hSl hSi fun h' tk acc' c' hk hS' hacc=>?_
 exact hR h' tk acc' c' (fun b o hb hb2 e=>hk b o hb hb2 (oth b o hb e)) hS' hacc
theorem Am {Q:Value->Shared->Prop} {it l:Addr} {items:Array Value} (hh:A.handled=none) (hit:iQ s.heap it l ((items.size:Int) - 1)) (hl:IsTup s.heap l items) (hne:l≠it) (hlen:items.size<=sizeLine)
  (hQ:∀ h' tk acc' c',(∀ b o,b≠it->s.heap.get? b=some o->h'.get? b=some o) ->
   h'.get? s.heap.objs.size=some { cls:=.type "list",dict:=none,data:=.seq acc' c',slots:=#[] }->ItemsOf (fun i v=>items[items.size - 1 - i]?=some v) acc' items.size->Q (.ref s.heap.objs.size) { s with heap:=h',toks:=tk }) :
  wpAny (model prog w) A (call (.type "list") [.ref it]) Q E s:=by
 obtain ⟨oi,hoi,_⟩:=id hit
 obtain ⟨ol,hol,_⟩:=id hl
 refine callType_codes (Q₁:=fun obj s₁=>obj=.ref s.heap.objs.size/\s₁={ s with heap:=s.heap.push { cls:=.type "list",data:=.seq #[] } }) F.called_list (F.typeCall_list_1 _) F.entry_list_init
  (code_list_new _ ⟨rfl,rfl⟩) fun obj s₁ h₁=>?_
 obtain ⟨rfl,rfl⟩:=h₁
 have hS:(s.heap.push { cls:=.type "list",data:=.seq #[] }).get? s.heap.objs.size=some { cls:=.type "list",data:=.seq #[] }:=Heap.get?_push_size _ rfl
 refine ⟨⟨_,hS,rfl⟩,F.args_list_init_2 _ _,AB (A:=A.in1) hh (hit.at fun o e=>Heap.get?_push_of_some _ e) (let ⟨o,ho,r⟩:=hl;⟨o,Heap.get?_push_of_some _ ho,r⟩) hne hlen _ hS (fun z=>Nat.lt_irrefl _ (z ▸ Heap.lt_size hol)) (fun z=>Nat.lt_irrefl _ (z ▸ Heap.lt_size hoi)) fun h' tk acc' c' hk hS' hacc=>?_⟩
 exact ⟨rfl,hQ h' tk acc' c' (fun b o hb e=>hk b o (Nat.ne_of_lt (Heap.lt_size e)) hb (Heap.get?_push_of_some _ e)) hS' hacc⟩
end
def A6 (K:PySem.W.Frag) (ta:TA):TE:=fun σ H Q=>ta σ H fun vs H1=>∃ a xs,vs=[.ref a]/\fW K H1 a xs/\∀ p,H1 p=none->Q (.ref p) (upd H1 p (.lst xs.reverse))
theorem Ga {X:Cx} {a:Expr} {ta:TA} {p1 p2 pos1 pos2:Pos} (hc:X.calm=true) (hgL:Gl X "list") (hmL:X.mg "list"=none) (hgR:Gl X "reversed") (hmR:X.mg "reversed"=none) (ha:PA X [a] ta) (hs:starEach [a] X.env=[(false,eval a X.env)])
  (hs2:starEach [.Call (.Name "reversed" p2) [a] [] pos2] X.env=[(false,eval (.Call (.Name "reversed" p2) [a] [] pos2) X.env)]) :
  PE X (.Call (.Name "list" p1) [.Call (.Name "reversed" p2) [a] [] pos2] [] pos1) (A6 X.K ta):=by
 intro pins s σ H Q I h
 refine Call_ (jO I hgL hmL xB (PyProof.Rows.callWith_type1 ?_ hs2 rfl))
 rw [hs2]
 show wpAny _ _ (spliced ((false,eval (.Call (.Name "reversed" p2) [a] [] pos2) X.env) :: backTo pos1 [])) _ _ s
 refine Calls.spliced_cons (Call_ (jO I hgR hmR boot_reversed (PyProof.Rows.callWith_type1 (bG (ha pos2 pins s σ H _ I h) fun us s1 ⟨vs,H1,I1,r1,q1⟩=>?_) hs rfl)))
 obtain ⟨b,xs,e,hq,q⟩:=q1
 subst e
 cases r1 with
 | cons r rr =>
  cases rr
  cases r
  obtain ⟨its,rv,hl,hz⟩:=I1.tuple hq
  obtain ⟨ol,hol,_⟩:=id hl
  refine t5 hl (by have:sizeLine=2 ^ 24:=rfl;rw [List.size_toArray,<- rv.length];omega) fun Io=>Calls.spliced_nil ?_
  have hrev:iQ (s1.heap.push (pG b ((its.toArray.size:Int) - 1))) s1.heap.objs.size b ((its.toArray.size:Int) - 1):=⟨_,Heap.get?_push_size _ rfl,rfl,rfl⟩
  refine Am (s:={ s1 with heap:=s1.heap.push (pG b ((its.toArray.size:Int) - 1)),toks:=Io }) (I1.ok.hd hc) hrev (let ⟨o,ho,r⟩:=hl;⟨o,Heap.get?_push_of_some _ ho,r⟩) (Nat.ne_of_lt (Heap.lt_size hol)) (by rw [List.size_toArray,<- rv.length];exact hz) fun h' tk acc' c' hk hS' hacc=>?_
  have hacc':=zF hacc
  subst hacc'
  have hsz:(s1.heap.push (pG b ((its.toArray.size:Int) - 1))).objs.size=s1.heap.objs.size + 1:=Heap.size_push ..
  have hD:H1 (s1.heap.push (pG b ((its.toArray.size:Int) - 1))).objs.size=none:=I1.hok.fresh (by rw [hsz];omega)
  refine ⟨.ref (s1.heap.push (pG b ((its.toArray.size:Int) - 1))).objs.size,_,I1.laid (t':=tk) (o:=.lst xs.reverse) (fun c o e=>hk c o (Nat.ne_of_lt (Heap.lt_size e)) (Heap.get?_push_of_some _ e)) (by rw [hsz];omega) ⟨by rw [List.length_reverse];exact hz,its.reverse,c',rv.reverse,hS'⟩,rfl,q _ hD⟩
def wG (o:Bool) (ta:UA):UE:=fun τ M Q=>ta τ M fun us M1=>match us with
 | [.tup us]=>j2 o us.reverse M1 Q
 | _=>False
theorem CC {K:PySem.W.Frag} {o:Bool} {ta:TA} {ta':UA} (h:j5 K ta ta'):bX K (A6 K ta) (wG o ta'):=fun σ τ H M Q' rs rm q Q c=>h σ τ H M _ rs rm q _ fun us vs M1 H1 s1 rm1 ru h1=>by
 split at h1
 ·obtain ⟨v,rfl,a1⟩:=ru.one
  simp only [aJ] at a1
  obtain ⟨a,zs,rfl,m,r2⟩:=a1
  exact ⟨a,zs,rfl,.inl (.inl m.2),fun p hp=>(cW.stp c s1).lst rm1 r2.reverse hp h1⟩
 ·exact h1.elim
theorem Ee {D:Dat} (own:Bool:=false) {a:Expr} {p1 p2 pos1 pos2:Pos} {ta:UA} (hmL:D.mg "list"=none) (hmR:D.mg "reversed"=none) (ha:lP D [a] ta) (hgL:D.sc.names.lookup ("list":Str)=some .globalImplicit:=by rfl) (hgR:D.sc.names.lookup ("reversed":Str)=some .globalImplicit:=by rfl)
  (hs:∀ env,starEach [a] env=[(false,eval a env)]:=by intro _;rfl) (hs2:∀ env,starEach [.Call (.Name "reversed" p2) [a] [] pos2] env=[(false,eval (.Call (.Name "reversed" p2) [a] [] pos2) env)]:=by intro _;rfl) :
  aV D (.Call (.Name "list" p1) [.Call (.Name "reversed" p2) [a] [] pos2] [] pos1) (wG own ta):=by
 obtain ⟨_,q,s⟩:=ha
 refine ⟨_,fun X h=>?_,CC s⟩
 have:=Ga (X:=X) (p1:=p1) (p2:=p2) (pos1:=pos1) (pos2:=pos2) h.calm (by show X.env.scope.names.lookup _=_;rw [h.sc];exact hgL) (by rw [h.mg];exact hmL) (by show X.env.scope.names.lookup _=_;rw [h.sc];exact hgR) (by rw [h.mg];exact hmR) (q X h) (hs _) (hs2 _)
 rw [h.K] at this
 exact this
end U2
namespace U2
open PySem PySem.Spec PyProof.Rows L2
def mT (ts:List (Addr × Str)):aF:=fun b=>(ts.lookup b).map MO.tbl
theorem n9 {b:Addr} {q:Str}:∀ {ts:List (Addr × Str)},ts.lookup b=some q->(b,q)∈ts
 | [],h=>by cases h
 | (c,r) :: ts,h=>by
  rw [List.lookup_cons] at h
  by_cases e:b=c
  ·subst e
   rw [beq_self_eq_true] at h
   cases h
   exact List.mem_cons_self
  ·rw [show (b == c)=false from beq_eq_false_iff_ne.mpr e] at h
   exact List.mem_cons_of_mem _ (n9 h)
theorem MD {K:PySem.W.Frag} {H:Hp} {ts:List (Addr × Str)} (hu:∀ p∈ts,∀ p'∈ts,p.2=p'.2->p.1=p'.1) (hT:∀ b∈ts.map Prod.fst,H b=some (.tbl #[])):RelM K H (mT ts):=by
 intro b mo h
 unfold mT at h
 cases e:ts.lookup b with
 | none=>rw [e] at h;cases h
 | some q =>
  rw [e] at h
  cases h
  refine ⟨fun b' h'=>?_,#[],hT b (List.mem_map.mpr ⟨_,n9 e,rfl⟩),trivial,fun pos c hc=>by cases hc⟩
  unfold mT at h'
  cases e':ts.lookup b' with
  | none=>rw [e'] at h';cases h'
  | some q' =>
   rw [e'] at h'
   cases h'
   exact hu _ (n9 e') _ (n9 e) rfl
theorem zU {K:PySem.W.Frag} {H:Hp} {M:aF}:∀ ns:List Int,aI K H M (ns.map U.int) (ns.map V.int)
 | []=>.nil
 | _ :: r=>.cons cT (zU r)
theorem CI {K:PySem.W.Frag} {H:Hp} {ts:List (Addr × Str)} {a:Addr} {ns:List Int} (hT:∀ b∈ts.map Prod.fst,H b=some (.tbl #[])) (hS:eO K H a (ns.map V.int)):aI K H (mT ts) [.lst (ns.map .int)] [.ref a]:=by
 refine .cons ?_ .nil
 simp only [aJ]
 refine ⟨a,_,rfl,?_,zU ns⟩
 rcases hS with h | h
 ·refine .inl ⟨?_,h⟩
  unfold mT
  cases e:ts.lookup a with
  | none=>rfl
  | some q =>
   have:=hT a (List.mem_map.mpr ⟨_,n9 e,rfl⟩)
   rcases h with h | ⟨o,h⟩ <;> rw [this] at h <;> cases h
 ·exact .inr h
theorem Oh {K:PySem.W.Frag} {H:Hp} {a:Addr} {ns:List Int} {E:XK} {ts:List (Addr × Str)} {sp:bF} (hS:eO K H a (ns.map V.int)) (hT:∀ b∈ts.map Prod.fst,H b=some (.tbl #[])) (hu:∀ p∈ts,∀ p'∈ts,p.2=p'.2->p.1=p'.1)
  (h:sp [.lst (ns.map .int)] (mT ts) fun u _=>u=.bl true):fE K sp [.ref a] H (fun v _=>v=.bl true) E :=
 ⟨[.lst (ns.map .int)],mT ts,fun u _=>u=.bl true,MD hu hT,CI hT hS,h,fun u v M1 H1 _ _ ru q=>by subst q;exact ru.bl⟩
end U2
namespace U2
open PySem PySem.Spec PyProof.Rows L2
end U2
namespace L2
open PySem
theorem DP {q:List Value->Prop} (h:q []) (us:List Value) (e:us.length=0):q us:=by rw [List.length_eq_zero_iff.mp e];exact h
theorem lN {n:Nat} {q:List Value->Prop} (h:∀ x us,us.length=n->q (x :: us)) (us:List Value) (e:us.length=n + 1):q us:=by
 cases us with
 | nil=>cases e
 | cons x r=>exact h x r (Nat.succ.inj e)
abbrev Ar:=Value->Value->Value->Option Addr->Value->Value->List Value->Prop
theorem oA {p:Ar} (h:∀ a b c d e g x0,p a b c d e g [x0]) (a b c d e g):∀ us,us.length=1->p a b c d e g us:=lN fun x0=>DP (h a b c d e g x0)
theorem oP {p:Ar} (h:∀ a b c d e g x0 x1,p a b c d e g [x0,x1]) (a b c d e g):∀ us,us.length=2->p a b c d e g us:=lN fun x0=>lN fun x1=>DP (h a b c d e g x0 x1)
theorem Ah {p:Ar} (h:∀ a b c d e g x0 x1 x2,p a b c d e g [x0,x1,x2]) (a b c d e g):∀ us,us.length=3->p a b c d e g us:=lN fun x0=>lN fun x1=>lN fun x2=>DP (h a b c d e g x0 x1 x2)
theorem Q4 {p:Ar} (h:∀ a b c d e g x0 x1 x2 x3,p a b c d e g [x0,x1,x2,x3]) (a b c d e g):∀ us,us.length=4->p a b c d e g us:=lN fun x0=>lN fun x1=>lN fun x2=>lN fun x3=>DP (h a b c d e g x0 x1 x2 x3)
theorem R8 {p:Ar} (h:∀ a b c d e g x0 x1 x2 x3 x4,p a b c d e g [x0,x1,x2,x3,x4]) (a b c d e g):∀ us,us.length=5->p a b c d e g us:=lN fun x0=>lN fun x1=>lN fun x2=>lN fun x3=>lN fun x4=>DP (h a b c d e g x0 x1 x2 x3 x4)
theorem RY {p:Ar} (h:∀ a b c d e g x0 x1 x2 x3 x4 x5,p a b c d e g [x0,x1,x2,x3,x4,x5]) (a b c d e g):∀ us,us.length=6->p a b c d e g us:=lN fun x0=>lN fun x1=>lN fun x2=>lN fun x3=>lN fun x4=>lN fun x5=>DP (h a b c d e g x0 x1 x2 x3 x4 x5)
end L2
namespace U2
open PySem PySem.Spec PyProof.Rows L2
theorem eZ {N P:List Str} {sc:Scope} (a:sc.kind=.function:=by rfl) (b:sc.isCoroutine=false:=by rfl) (c:sc.isGenerator=false:=by rfl) (d:N.Nodup:=by decide +kernel) (e:N.take P.length=P:=by rfl) (f:∀ x∈P,sc.names.lookup x=some .local\/sc.names.lookup x=some .cell:=by decide +kernel) (g:∀ y∈sc.names,y.2≠.free:=by decide +kernel):aX N P sc:=⟨a,b,c,d,e,f,g⟩
theorem nk {xs:List U} {I:Nat->SU->aF->Prop}:∀ i τ M,I i τ M->(Src.mk none xs).ok M:=fun _ _ _ _ _ e=>nomatch e
theorem bN {P:Program} {w:World} {K:PySem.W.Frag} {mg:Str->Option Value} {base:Heap} {x:Str} {st:Stmt} {f:Addr} {fd:FuncData} {N ps:List Str} {k:Nat} {sp:bF} {t:US} (F:cL K x x st f fd) (hm:mg x=some (.ref f)) (S:aX N ps (aG st))
  (bind:∀ (kV doc pm:Value) (an:Option Addr) (cdv ct:Value) (us:List Value),us.length=ps.length->bindArgs (PySem.W.fnOf x x (aW st) (aU st) (aG st) .none kV doc pm an cdv ct) ⟨us,[]⟩=pure (ps.zip us))
  (h:oC ⟨P,w,K,mg,base,N,aG st,k,true,.none,""⟩ (aU st) t)
  (q:∀ us M Q,sp us M Q->us.length=ps.length/\t { nx:=fun _ M'=>iP Q .non M',rt:=iP Q } (fG N us) M):Callee P w K mg base (k + 1) x sp [] :=
 qL F hm S bind (fun us M Q hs=>(q us M Q hs).1) h (fun us M Q hs=>(q us M Q hs).2)
end U2
namespace K36
open PySem L2 U2
def top (i:Nat):Stmt:=PySem.Challenge.pw_rowsmith_k36_one_row.main.body.getD i (.Pass ⟨0,0,0,0⟩)
abbrev kP:Stmt:=top 10
theorem Cr:aX ["thing"] ["thing"] (aG kP):=eZ
abbrev jR:Stmt:=top 11
theorem AU:aX ["thing"] ["thing"] (aG jR):=eZ
abbrev lU:Stmt:=top 12
theorem FG:aX ["thing"] ["thing"] (aG lU):=eZ
abbrev kX:Stmt:=top 13
theorem iL:aX ["thing","is_leaf","most_pieces","most_within","count","waiting","entry","piece","depth"] ["thing","is_leaf","most_pieces","most_within"] (aG kX):=eZ
abbrev kJ:Stmt:=top 14
theorem CD:aX ["shape"] ["shape"] (aG kJ):=eZ
abbrev iN:Stmt:=top 15
theorem mM:aX ["shape","found","number","part"] ["shape"] (aG iN):=eZ
abbrev kR:Stmt:=top 16
theorem nT:aX ["shape","place","here","number"] ["shape","place"] (aG kR):=eZ
abbrev jA:Stmt:=top 17
theorem Dc:aX ["shape","of_leaf","of_sign"] ["shape","of_leaf","of_sign"] (aG jA):=eZ
abbrev lZ:Stmt:=top 19
theorem Fx:aX ["thing"] ["thing"] (aG lZ):=eZ
abbrev gW:Stmt:=top 20
theorem xA:aX ["thing"] ["thing"] (aG gW):=eZ
abbrev mG:Stmt:=top 21
theorem EC:aX ["thing"] ["thing"] (aG mG):=eZ
abbrev pE:Stmt:=top 23
theorem Bn:aX ["pattern","found"] ["pattern"] (aG pE):=eZ
abbrev m7:Stmt:=top 24
theorem zJ:aX ["pattern","found"] ["pattern"] (aG m7):=eZ
abbrev mB:Stmt:=top 27
theorem E7:aX ["thing"] ["thing"] (aG mB):=eZ
abbrev rQ:Stmt:=top 28
theorem Nk:aX ["leaf","thing"] ["leaf","thing"] (aG rQ):=eZ
abbrev nQ:Stmt:=top 29
theorem zO:aX ["table","thing","pattern"] ["table","thing"] (aG nQ):=eZ
abbrev jY:Stmt:=top 30
theorem uM:aX ["pattern","thing","wanted"] ["pattern","thing"] (aG jY):=eZ
abbrev jS:Stmt:=top 31
theorem Bt:aX ["pattern","thing"] ["pattern","thing"] (aG jS):=eZ
abbrev kW:Stmt:=top 32
theorem rJ:aX ["table","cells","row","spot","cell"] ["table","cells","row"] (aG kW):=eZ
abbrev jF:Stmt:=top 33
theorem uD:aX ["pattern","borne","trees","borne_left","trees_left"] ["pattern","borne","trees"] (aG jF):=eZ
abbrev iE:Stmt:=top 34
theorem yE:aX ["leaf","borne_left","trees_left"] ["leaf","borne_left","trees_left"] (aG iE):=eZ
abbrev nE:Stmt:=top 35
theorem mE:aX ["table","cells","number","row","tile","taken","tree","word","had"] ["table","cells","number","row"] (aG nE):=eZ
abbrev gU:Stmt:=top 36
abbrev nG:Stmt:=top 37
theorem HD:aX ["table","rows"] ["table","rows"] (aG nG):=eZ
abbrev iV:Stmt:=top 38
theorem Ao:aX ["table","rows"] ["table","rows"] (aG iV):=eZ
abbrev jV:Stmt:=top 40
theorem p8:aX ["cell","k","one"] ["cell","k"] (aG jV):=eZ
abbrev jQ:Stmt:=top 41
theorem j4:aX ["cell","many","found","left","k"] ["cell","many"] (aG jQ):=eZ
abbrev NC:Stmt:=top 42
abbrev jT:Stmt:=top 43
theorem Bw:aX ["one"] ["one"] (aG jT):=eZ
abbrev kT:Stmt:=top 44
theorem vR:aX ["one","letters"] ["one"] (aG kT):=eZ
abbrev kZ:Stmt:=top 45
theorem vS:aX ["one","sorts","room","low"] ["one","sorts","room"] (aG kZ):=eZ
abbrev iG:Stmt:=top 46
theorem dC:aX ["some","sorts","stack","room","one","last","ahead","sign"] ["some","sorts"] (aG iG):=eZ
abbrev jL:Stmt:=top 47
theorem lF:aX ["pattern","place","found","k","part"] ["pattern","place"] (aG jL):=eZ
abbrev jK:Stmt:=top 48
theorem rC:aX ["pattern","borne","trees","found","part"] ["pattern","borne","trees"] (aG jK):=eZ
abbrev jU:Stmt:=top 49
theorem kC:aX ["ends","seed","found","k","place","leaf"] ["ends","seed"] (aG jU):=eZ
abbrev jJ:Stmt:=top 50
theorem q9:aX ["told","due","one","other"] ["told","due"] (aG jJ):=eZ
abbrev jD:Stmt:=top 51
theorem q8:aX ["pattern","found","part"] ["pattern"] (aG jD):=eZ
abbrev jW:Stmt:=top 52
theorem cK:aX ["cell","some","sorts","first","second","tiles","number","pattern","borne","into","rows","due"] ["cell"] (aG jW):=eZ
abbrev oU:Stmt:=top 53
inductive Op where
 | sum | less | by_
def Op.word:Op->Str
 | .sum=>"sum" | .less=>"less" | .by_=>"by"
inductive Tr where
 | num (n:Int) | name (x:Str) | turn (a:Tr) | two (o:Op) (a b:Tr)
def Tr.toU:Tr->U
 | .num n=>.tup [.str "num",.int n]
 | .name x=>.tup [.str "name",.str x]
 | .turn a=>.tup [.str "turn",a.toU]
 | .two o a b=>.tup [.str o.word,a.toU,b.toU]
def Bm (z:Str):Prop:=PyData.strOk z=true/\1<=z.length/\∀ c∈z.cps.toList,97<=c/\c<=122
def Tr.ok:Tr->Prop
 | .num _=>True
 | .name x=>PyData.strOk x=true/\x.length<=100
 | .turn a=>a.ok
 | .two _ a b=>a.ok/\b.ok
def Tr.dep:Tr->Nat
 | .num _=>1
 | .name _=>1
 | .turn a=>a.dep + 1
 | .two _ a b=>max a.dep b.dep + 1
inductive Pt where
 | hole (c:Str) | any | fr (l h:Int) | turn (a:Pt) | two (o:Op) (a b:Pt)
def Pt.toU:Pt->U
 | .hole c=>.tup [.str "at",.str c]
 | .any=>.tup [.str "any"]
 | .fr l h=>.tup [.str "from",.int l,.int h]
 | .turn a=>.tup [.str "turn",a.toU]
 | .two o a b=>.tup [.str o.word,a.toU,b.toU]
def Pt.ok:Pt->Prop
 | .hole c=>PyData.strOk c=true
 | .any=>True
 | .fr l h=>0<=l/\l<=h/\h<=10 ^ 18
 | .turn a=>a.ok
 | .two _ a b=>a.ok/\b.ok
def Pt.dep:Pt->Nat
 | .hole _=>1
 | .any=>1
 | .fr _ _=>1
 | .turn a=>a.dep + 1
 | .two _ a b=>max a.dep b.dep + 1
def Pt.holes:Pt->Nat
 | .hole _=>1
 | .any=>0
 | .fr _ _=>0
 | .turn a=>a.holes
 | .two _ a b=>a.holes + b.holes
def Pt.leafy:Pt->Bool
 | .turn _=>false
 | .two _ _ _=>false
 | _=>true
def Pt.ends:Pt->List Pt
 | .turn a=>a.ends
 | .two _ a b=>a.ends++b.ends
 | p=>[p]
instance:DecidableEq Op:=fun a b=>by cases a <;> cases b <;> first | exact isTrue rfl | exact isFalse (fun h=>nomatch h)
def gB:Pt->Tr->Bool
 | .hole _,_=>true
 | .any,.name _=>true
 | .any,_=>false
 | .fr l h,.num n=>decide (l<=n) && decide (n<=h)
 | .fr _ _,_=>false
 | .turn p,.turn a=>gB p a
 | .turn _,_=>false
 | .two o p q,.two o' a b=>decide (o=o') && (gB p a && gB q b)
 | .two _ _ _,_=>false
def cE:List (Str × Fl):=[("turn",.int 1),("sum",.int 2),("less",.int 2),("by",.int 2)]
theorem Gi (x y:Str):(x++y).cps.toList=x.cps.toList++y.cps.toList:=by
 show (x.cps++y.cps).toList=_
 simp
theorem rT {α:Type} {l:List α} {i:Int} {c:α} (h:dM l i=some c):c∈l:=by
 unfold dM at h
 cases e:qQ l.length i with
 | none=>rw [e] at h;cases h
 | some j=>rw [e] at h;exact List.mem_of_getElem? h
theorem small {n:Nat} (h:n<=100000):n<=sizeLine:=Nat.le_trans h (by decide)
theorem DZ {n:Nat} (h:n<=100000):(n<=sizeLine)=True:=eq_true (small h)
theorem Jd:(Str.ofString "at"=Str.ofString "any")=False:=eq_false (by decide +kernel)
theorem Hi:(Str.ofString "at"=Str.ofString "from")=False:=eq_false (by decide +kernel)
theorem Ht:(Str.ofString "at"=Str.ofString "turn")=False:=eq_false (by decide +kernel)
theorem JN:(Str.ofString "at"=Str.ofString "num")=False:=eq_false (by decide +kernel)
theorem HS:(Str.ofString "at"=Str.ofString "name")=False:=eq_false (by decide +kernel)
theorem Kd:(Str.ofString "any"=Str.ofString "at")=False:=eq_false (by decide +kernel)
theorem Ez:(Str.ofString "any"=Str.ofString "from")=False:=eq_false (by decide +kernel)
theorem Gn:(Str.ofString "any"=Str.ofString "turn")=False:=eq_false (by decide +kernel)
theorem HU:(Str.ofString "any"=Str.ofString "num")=False:=eq_false (by decide +kernel)
theorem FV:(Str.ofString "any"=Str.ofString "name")=False:=eq_false (by decide +kernel)
theorem Ik:(Str.ofString "from"=Str.ofString "at")=False:=eq_false (by decide +kernel)
theorem Gf:(Str.ofString "from"=Str.ofString "any")=False:=eq_false (by decide +kernel)
theorem CV:(Str.ofString "from"=Str.ofString "turn")=False:=eq_false (by decide +kernel)
theorem F8:(Str.ofString "from"=Str.ofString "num")=False:=eq_false (by decide +kernel)
theorem Cy:(Str.ofString "from"=Str.ofString "name")=False:=eq_false (by decide +kernel)
theorem HL:(Str.ofString "turn"=Str.ofString "at")=False:=eq_false (by decide +kernel)
theorem FD:(Str.ofString "turn"=Str.ofString "any")=False:=eq_false (by decide +kernel)
theorem C0:(Str.ofString "turn"=Str.ofString "from")=False:=eq_false (by decide +kernel)
theorem FZ:(Str.ofString "turn"=Str.ofString "num")=False:=eq_false (by decide +kernel)
theorem CL:(Str.ofString "turn"=Str.ofString "name")=False:=eq_false (by decide +kernel)
theorem Kh:(Str.ofString "num"=Str.ofString "at")=False:=eq_false (by decide +kernel)
theorem HW:(Str.ofString "num"=Str.ofString "any")=False:=eq_false (by decide +kernel)
theorem EW:(Str.ofString "num"=Str.ofString "from")=False:=eq_false (by decide +kernel)
theorem Gq:(Str.ofString "num"=Str.ofString "turn")=False:=eq_false (by decide +kernel)
theorem FC:(Str.ofString "num"=Str.ofString "name")=False:=eq_false (by decide +kernel)
theorem Hv:(Str.ofString "name"=Str.ofString "at")=False:=eq_false (by decide +kernel)
theorem ED:(Str.ofString "name"=Str.ofString "any")=False:=eq_false (by decide +kernel)
theorem CG:(Str.ofString "name"=Str.ofString "from")=False:=eq_false (by decide +kernel)
theorem CN:(Str.ofString "name"=Str.ofString "turn")=False:=eq_false (by decide +kernel)
theorem E9:(Str.ofString "name"=Str.ofString "num")=False:=eq_false (by decide +kernel)
theorem NI (o:Op):(o.word=Str.ofString "at")=False:=eq_false (by cases o <;> decide +kernel)
theorem LV (o:Op):(o.word=Str.ofString "any")=False:=eq_false (by cases o <;> decide +kernel)
theorem Kq (o:Op):(o.word=Str.ofString "from")=False:=eq_false (by cases o <;> decide +kernel)
theorem IZ (o:Op):(o.word=Str.ofString "turn")=False:=eq_false (by cases o <;> decide +kernel)
theorem Nr (o:Op):(o.word=Str.ofString "num")=False:=eq_false (by cases o <;> decide +kernel)
theorem Kg (o:Op):(o.word=Str.ofString "name")=False:=eq_false (by cases o <;> decide +kernel)
theorem O4 (o:Op):(Str.ofString "at"=o.word)=False:=eq_false (by cases o <;> decide +kernel)
theorem LR (o:Op):(Str.ofString "any"=o.word)=False:=eq_false (by cases o <;> decide +kernel)
theorem I0 (o:Op):(Str.ofString "from"=o.word)=False:=eq_false (by cases o <;> decide +kernel)
theorem KP (o:Op):(Str.ofString "turn"=o.word)=False:=eq_false (by cases o <;> decide +kernel)
theorem LH (o:Op):(Str.ofString "num"=o.word)=False:=eq_false (by cases o <;> decide +kernel)
theorem J3 (o:Op):(Str.ofString "name"=o.word)=False:=eq_false (by cases o <;> decide +kernel)
theorem h7:(Str.ofString "at"=Str.ofString "any")=False/\(Str.ofString "at"=Str.ofString "from")=False/\(Str.ofString "at"=Str.ofString "turn")=False/\(Str.ofString "at"=Str.ofString "num")=False/\(Str.ofString "at"=Str.ofString "name")=False/\(Str.ofString "any"=Str.ofString "at")=False:=⟨Jd,Hi,Ht,JN,HS,Kd⟩
theorem gZ:(Str.ofString "any"=Str.ofString "from")=False/\(Str.ofString "any"=Str.ofString "turn")=False/\(Str.ofString "any"=Str.ofString "num")=False/\(Str.ofString "any"=Str.ofString "name")=False/\(Str.ofString "from"=Str.ofString "at")=False/\(Str.ofString "from"=Str.ofString "any")=False:=⟨Ez,Gn,HU,FV,Ik,Gf⟩
theorem g6:(Str.ofString "from"=Str.ofString "turn")=False/\(Str.ofString "from"=Str.ofString "num")=False/\(Str.ofString "from"=Str.ofString "name")=False/\(Str.ofString "turn"=Str.ofString "at")=False/\(Str.ofString "turn"=Str.ofString "any")=False/\(Str.ofString "turn"=Str.ofString "from")=False:=⟨CV,F8,Cy,HL,FD,C0⟩
theorem g9:(Str.ofString "turn"=Str.ofString "num")=False/\(Str.ofString "turn"=Str.ofString "name")=False/\(Str.ofString "num"=Str.ofString "at")=False/\(Str.ofString "num"=Str.ofString "any")=False/\(Str.ofString "num"=Str.ofString "from")=False/\(Str.ofString "num"=Str.ofString "turn")=False:=⟨FZ,CL,Kh,HW,EW,Gq⟩
theorem hZ:(Str.ofString "num"=Str.ofString "name")=False/\(Str.ofString "name"=Str.ofString "at")=False/\(Str.ofString "name"=Str.ofString "any")=False/\(Str.ofString "name"=Str.ofString "from")=False/\(Str.ofString "name"=Str.ofString "turn")=False/\(Str.ofString "name"=Str.ofString "num")=False:=⟨FC,Hv,ED,CG,CN,E9⟩
theorem hC:(∀ o:Op,(o.word=Str.ofString "at")=False)/\(∀ o:Op,(o.word=Str.ofString "any")=False)/\(∀ o:Op,(o.word=Str.ofString "from")=False)/\(∀ o:Op,(o.word=Str.ofString "turn")=False)/\(∀ o:Op,(o.word=Str.ofString "num")=False)/\(∀ o:Op,(o.word=Str.ofString "name")=False):=⟨NI,LV,Kq,IZ,Nr,Kg⟩
theorem hJ:(∀ o:Op,(Str.ofString "at"=o.word)=False)/\(∀ o:Op,(Str.ofString "any"=o.word)=False)/\(∀ o:Op,(Str.ofString "from"=o.word)=False)/\(∀ o:Op,(Str.ofString "turn"=o.word)=False)/\(∀ o:Op,(Str.ofString "num"=o.word)=False)/\(∀ o:Op,(Str.ofString "name"=o.word)=False):=⟨O4,LR,I0,KP,LH,J3⟩
section
variable {P:Program} {w:World} {K:PySem.W.Frag} {mg:Str->Option Value} {base:Heap} {f d d2 fl:Addr} {fd:FuncData}
def Dt:Str:=Str.ofString "abcdefghijklmnopqrstuvwxyz"
theorem len_app (x y:Str):(x++y).length=x.length + y.length:=by
 show (x.cps++y.cps).size=x.cps.size + y.cps.size
 simp
theorem pB {neg:Bool} {i j:Int} {M:aF} {Q:UK}:kD neg (.int i) (.int j) M Q=Q (.bl (if neg then !decide (i=j) else decide (i=j))) M:=rfl
theorem pA {neg:Bool} {i j:Str} {M:aF} {Q:UK}:kD neg (.str i) (.str j) M Q=Q (.bl (if neg then !decide (i=j) else decide (i=j))) M:=rfl
theorem big {k:Nat} (h:k < 100000):k < sizeLine:=Nat.lt_of_lt_of_le h (by decide)
def jC:bF:=fun us M Q=>∃ (z:Str) (r:List U) (b:Bool),us=[.tup (.str z :: r)]/\(bV cE z).isSome=b/\r.length<=1000/\Q (.tup (if b then r else [])) M
local macro_rules | `(tactic| dsimp! only [$xs,*] $[$l]?) => `(tactic| simp only [$xs,*, Bool.false_eq_true, Bool.not_false, Bool.not_true, List.append_nil, List.cons_append, List.getElem?_cons_succ, List.getElem?_cons_zero, List.length_cons, List.length_nil, List.map_cons, List.map_nil, List.nil_append, List.replicate, List.set_cons_succ, List.set_cons_zero, Nat.add_sub_cancel, Nat.reduceAdd, Nat.reduceLeDiff, Nat.reduceSub, Nat.sub_self, Option.getD_some, Option.some.injEq, and_true, xT, xH, at2, zW, rD, uS, mQ, qO, mW, nO, mU, p7, uL, j9, xY, xX, xG, Ad, eJ, decide_false, decide_true, pB, pA, exists_eq_left', h9, hName, jZ, iK, if_false, if_true, tK, bP, gK, cQ, cR, cY, cS, cZ, cM, e6, fB, fQ, eW, fR, d7, fD, e7, gF, fA, fZ, dZ, gC, fY, gR, gG, gP, e8, eY, fC, fX, eX, gA, dW, fV, fS, gQ, fO, gS, eV, d8, d4, eT, dX, eU, dI, items, bY, iS, n8, iW, pH, aD, j2, gM, aS, reduceCtorEq, fG, DZ, true_and, nM, mJ, mL, qY, gI, cF, tR, rA, mN, uC, qN, kS, mR, j6, gO, oW, iR, nS, n6, uB, uI, oM, vN, oJ, fP, pL, kQ, pZ, rE, qZ, tJ, uA, b8, kH, jX, qU, qH, n4, fH, vP, rH, nV, cH, o7, nW, qD, oE, dE, qW, lR, rB, pM, vQ, fK, rG, nZ, lH, lG, lM, kG, lK, lL] $[$l]?)
theorem Cs (F:cL K "parts_of" "parts_of" kJ f fd) (hm:mg "parts_of"=some (.ref f)) (eQ:mK P w K d cE) (eS:mg "SIGNS"=some (.ref d)):Callee P w K mg base 1 "parts_of" jC []:=by
 refine bN F hm CD (oA fun _ _ _ _ _ _ _=>rfl) (aH (aQ (K3 (cB (Ds eQ) (aL (uv 0) aK) (sF eS)) (mV (own:=false) (uv 0) (iT aK) nA) (bC aB)))) ?_
 rintro us M Q ⟨z,r,b,rfl,hb,hl,q⟩
 refine ⟨rfl,?_⟩
 dsimp! only [hb]
 cases b with
 | true =>
  dsimp! only [wJ]
  exact aN q
 | false =>
  dsimp! only [true_and]
  exact aN q
theorem u3:(bV cE (Str.ofString "turn")).isSome=true:=by decide +kernel
theorem t8 (o:Op):(bV cE o.word).isSome=true:=by cases o <;> decide +kernel
theorem pI:∀ p:Pt,1<=p.dep
 | .hole _=>Nat.le_refl _
 | .any=>Nat.le_refl _
 | .fr _ _=>Nat.le_refl _
 | .turn a=>by simp only [Pt.dep];omega
 | .two o a b=>by simp only [Pt.dep];omega
theorem mulL {i j:Int} (h1:-(2 ^ 64) < i) (h2:i < 2 ^ 64):qP i j:=.inl (.inl ⟨h1,h2⟩)
theorem mulR {i j:Int} (h1:-(2 ^ 64) < j) (h2:j < 2 ^ 64):qP i j:=.inl (.inr ⟨h1,h2⟩)
def yI:bF:=fun us M Q=>∃ c k:Int,us=[.int c,.int k]/\0<=k/\k<=1000/\∀ n:Int,0<=n->Q (.int n) M
theorem Kt (F:cL K "_law_mixed" "_law_mixed" jV f fd) (hm:mg "_law_mixed"=some (.ref f)):Callee P w K mg base 1 "_law_mixed" yI []:=by
 refine bN F hm p8 (oP fun _ _ _ _ _ _ _ _=>rfl) (aE (aZ 2 p8.nd (cD (mD (own:=false) (dF (own:=false) (dF (own:=false) (cD (uv 0) aK) (mD (own:=false) aK (uv 1))) aK) aK) aK))
 (aE (aZ 2 p8.nd (cD (mD (own:=false) (uv 2) (uv 2)) aK))
 (aH (aQ (eR (cD (mD (own:=false) (dF (own:=false) (uv 2) (mD (own:=false) aK (dF (own:=false) (uv 1) aK))) aK) aK) aK))))) ?_
 rintro us M Q ⟨c,k,rfl,h1,h2,q⟩
 refine ⟨rfl,?_⟩
 dsimp! only [true_and]
 have a1:=Int.emod_nonneg c (show (1000000007:Int)≠0 by decide)
 have a2:=Int.emod_lt_of_pos c (show (0:Int) < 1000000007 by decide)
 generalize c % 1000000007=x at a1 a2
 generalize hy:(x + 7919 * k + 1) * 48271 % 2147483647=y
 have b1:0<=y:=by rw [<- hy];exact Int.emod_nonneg _ (by decide)
 have b2:y < 2147483647:=by rw [<- hy];exact Int.emod_lt_of_pos _ (by decide)
 generalize hz:y * y % 998244353=z
 have c1:0<=z:=by rw [<- hz];exact Int.emod_nonneg _ (by decide)
 have c2:z < 998244353:=by rw [<- hz];exact Int.emod_lt_of_pos _ (by decide)
 refine ⟨by decide,mulL (by decide) (by decide),mulR (by decide) (by decide),by decide,mulL (by omega) (by omega),by decide,mulL (by decide) (by decide),mulR (by decide) (by decide),by decide,⟨by decide,by decide⟩,aN (q _ ?_)⟩
 exact Int.ediv_nonneg (Int.emod_nonneg _ (by decide)) (by decide)
def DB:bF:=fun us M Q=>∃ (c:Int) (m:Nat),us=[.int c,.int (m:Int)]/\m<=100/\∀ l:List Int,l.length=m->(∀ x∈l,0<=x)->Q (.lst (l.map .int)) M
theorem OB (c:Int):0<=(if c < 0 then -c else c):=by split <;> omega
theorem IE (F:cL K "_law_draws" "_law_draws" jQ f fd) (hm:mg "_law_draws"=some (.ref f)) (AO:mg "abs"=none) (yG:mg "range"=none) (nR:Callee P w K mg base 1 "_law_mixed" yI []):Callee P w K mg base 2 "_law_draws" DB []:=by
 refine bN F hm j4 (oP fun _ _ _ _ _ _ _ _=>rfl) (aE (aZ 2 j4.nd (cU (own:=true) aB))
 (aE (aZ 3 j4.nd (cA La AO (aA (uv 0) aB)))
 (aE (i7 (LN yG (aA (uv 1) aB)) (aY (k:=1000) 4 j4.nd)
 (aH (bS (i8.pt (qA (cB Ri (cA La AO (aA (uv 0) aB)) (BP aK aK)) (rN (cB yK (uv 3) aK))))
 (aE (gX (iI (uv 2) (aA (cD (uv 3) aK) aB)))
 (aH (aZ 3 j4.nd (eR (uv 3) aK))))
 (aH (gX (iI (uv 2) (aA (aP nR (aA (uv 0) (aA (uv 4) aB))) aB)))))))
 (aH (aQ (uv 2)))))) ?_
 rintro us M Q ⟨c,m,rfl,hm,q⟩
 refine ⟨rfl,?_⟩
 dsimp! only [true_and]
 intro p hp
 refine gE (S:=⟨none,iH 0 m⟩) (M1:=mup M p (.lst [])) (fun R r=>?_)
  (fun i τ Mi=>∃ (l:List Int) (lf:Int) (k:Option U),τ=[some (.int c),some (.int (m:Int)),some (.ref p),some (.int lf),k]/\Mi=mup M p (.lst (l.map .int))/\l.length=i/\(∀ x∈l,0<=x)/\0<=lf) ⟨[],_,none,rfl,rfl,rfl,(fun x h=>by cases h),OB c⟩ nk ?_ ?_
 ·dsimp! only [true_and]
  exact ⟨by omega,by omega,by rw [show ((m:Int)).toNat=m by omega];exact r⟩
 ·rintro i x τ Mi e ⟨l,lf,k,rfl,rfl,hl,hx,hlf⟩
  obtain ⟨rfl,hi⟩:=EH e
  have add:∀ n:Int,0<=n->∀ y∈l++[n],0<=y:=fun n hn y hy=>by
   rcases List.mem_append.mp hy with hy | hy
   ·exact hx y hy
   ·cases List.mem_singleton.mp hy;exact hn
  dsimp! only [true_and]
  have pw:Fs 10 18:=⟨by decide,by decide,by decide⟩
  refine ⟨pw,mI (fun _=>mI (fun _=>?_) (fun _=>?_)) (fun _=>?_)⟩
  ·refine ⟨dY,by decide,big (by simp;omega),⟨by decide,by decide⟩,l++[lf % 1000003],_,_,rfl,by simp,by simp;omega,add _ (Int.emod_nonneg _ (by decide)),Int.ediv_nonneg hlf (by decide)⟩
  all_goals
   refine ⟨dY,c,_,rfl,by omega,by omega,fun n hn=>?_⟩
   dsimp! only [true_and]
   exact ⟨big (by simp;omega),l++[n],_,_,rfl,by simp,by simp;omega,add n hn,hlf⟩
 ·rintro τ Mi ⟨l,lf,k,rfl,rfl,hl,hx,hlf⟩
  have hl2:(Src.mk none (iH 0 m)).xs.length=m:=EZ _ _
  rw [hl2] at hl
  dsimp! only [true_and]
  exact ⟨_,M,(Sub.refl M).mup hp,.inr ⟨p,_,rfl,aS,hp,rfl⟩,q l hl hx⟩
def sG:bF:=fun us M Q=>∃ c:Int,us=[.int c]/\∀ n:Int,0<=n->n<=10 ^ 18->Q (.int n) M
theorem IH (F:cL K "_law_great" "_law_great" jT f fd) (hm:mg "_law_great"=some (.ref f)):Callee P w K mg base 1 "_law_great" sG []:=by
 refine bN F hm Bw (oA fun _ _ _ _ _ _ _=>rfl) (aE (bS (cB eB (cD (uv 0) aK) aK)
 (aH (aQ (cD (eR (uv 0) aK) aK)))
 bD)
 (aE (bS (cB eB (cD (uv 0) aK) aK)
 (aH (aQ (BM (BP aK aK) (cD (eR (uv 0) aK) aK))))
 bD)
 (aH (aQ (cD (mD (own:=false) (mD (own:=false) (eR (uv 0) aK) aK) aK) (dF (own:=false) (BP aK aK) aK)))))) ?_
 rintro us M Q ⟨c,rfl,q⟩
 refine ⟨rfl,?_⟩
 dsimp! only [true_and]
 have pw:Fs 10 18:=⟨by decide,by decide,by decide⟩
 refine ⟨by decide,mI (fun _=>?_) (fun _=>⟨by decide,mI (fun _=>?_) (fun _=>?_)⟩)⟩
 ·have h1:=Int.emod_nonneg (c / 4) (show (12:Int)≠0 by decide)
  have h2:=Int.emod_lt_of_pos (c / 4) (show (0:Int) < 12 by decide)
  exact ⟨⟨by decide,by decide⟩,by decide,aN (q _ h1 (by omega))⟩
 ·have h1:=Int.emod_nonneg (c / 4) (show (5:Int)≠0 by decide)
  have h2:=Int.emod_lt_of_pos (c / 4) (show (0:Int) < 5 by decide)
  refine ⟨pw,⟨by decide,by decide⟩,by decide,aN (q _ ?_ ?_)⟩
  ·show (0:Int)<=10 ^ 18 - c / 4 % 5;omega
  ·show (10:Int) ^ 18 - c / 4 % 5<=10 ^ 18;omega
 ·refine ⟨⟨by decide,by decide⟩,mulR (by decide) (by decide),mulR (by decide) (by decide),pw,by decide,aN (q _ (Int.emod_nonneg _ (by decide)) ?_)⟩
  have:=Int.emod_lt_of_pos (c / 4 * 998244353 * 1000003) (show (0:Int) < 10 ^ 18 + 1 by decide)
  show c / 4 * 998244353 * 1000003 % (10 ^ 18 + 1)<=10 ^ 18
  omega
theorem Iz {x y:Str} (h:PyData.strOk x=true) (k:PyData.strOk y=true):PyData.strOk (x++y)=true:=by
 unfold PyData.strOk at *
 rw [<- Array.all_toList] at *
 rw [Gi,List.all_append,h,k];rfl
theorem GS {z:Str} (h:PyData.strOk z=true) (n:Int):PyData.strOk (oH z n)=true:=by
 unfold oH
 split
 ·decide +kernel
 ·split
  ·exact h
  ·have key:∀ (k:Nat) (acc:Array Nat),acc.all (· < 0x110000)=true->((List.replicate k z.cps).foldl (·++·) acc).all (· < 0x110000)=true:=by
    intro k
    induction k with
    | zero=>intro acc ha;simpa using ha
    | succ k ih =>
     intro acc ha
     rw [List.replicate_succ,List.foldl_cons]
     refine ih _ ?_
     have h':z.cps.all (· < 0x110000)=true:=h
     rw [<- Array.all_toList] at *
     rw [Array.toList_append,List.all_append,ha,h'];rfl
   exact key _ _ (by simp)
theorem Mx (z:Str) (n:Int):(oH z n).length<=z.length * n.toNat:=by
 unfold oH
 split
 ·exact Nat.zero_le _
 ·rename_i h1
  split
  ·rename_i h
   have hn:1<=n.toNat:=by omega
   exact Nat.le_mul_of_pos_right _ hn
  ·have hsz:∀ (k:Nat) (acc:Array Nat),((List.replicate k z.cps).foldl (·++·) acc).size=acc.size + k * z.cps.size:=by
    intro k
    induction k with
    | zero=>intro acc;simp
    | succ k ih=>intro acc;rw [List.replicate_succ,List.foldl_cons,ih,Array.size_append,Nat.succ_mul];omega
   show ((List.replicate n.toNat z.cps).foldl (·++·) #[]).size<=_
   rw [hsz]
   simp only [Array.size_empty,Nat.zero_add]
   rw [Nat.mul_comm];exact Nat.le_refl _
theorem Ex {z:Str} {i:Int} {c:Nat} (hz:PyData.strOk z=true) (h:dM z.cps.toList i=some c):PyData.strOk ⟨#[c]⟩=true:=by
 unfold PyData.strOk at *
 rw [<- Array.all_toList,List.all_eq_true] at *
 intro x hx
 simp only [List.mem_cons,List.not_mem_nil,or_false] at hx
 subst hx
 exact hz _ (rT h)
theorem Mh (x y:Str):(x++y).cps.toList=x.cps.toList++y.cps.toList:=by
 show (x.cps++y.cps).toList=_
 simp
theorem Mn {y d:Nat} {n:Int} (h:d∈(oH ⟨#[y]⟩ n).cps.toList):d=y:=by
 unfold oH at h
 split at h
 ·cases h
 ·split at h
  ·exact List.mem_singleton.mp h
  ·have key:∀ (k:Nat) (acc:Array Nat),(∀ e∈acc.toList,e=y)->∀ e∈((List.replicate k (#[y]:Array Nat)).foldl (·++·) acc).toList,e=y:=by
    intro k
    induction k with
    | zero=>intro acc ha;exact ha
    | succ k ih =>
     intro acc ha
     rw [List.replicate_succ,List.foldl_cons]
     refine ih _ fun e he=>?_
     rw [Array.toList_append] at he
     rcases List.mem_append.mp he with he | he
     ·exact ha e he
     ·exact List.mem_singleton.mp he
   exact key _ #[] (fun e he=>by cases he) d h
def HN:bF:=fun us M Q=>∃ c:Int,us=[.int c]/\∀ z:Str,Bm z->z.length<=8->Q (.str z) M
theorem Mk (F:cL K "_law_name" "_law_name" kT f fd) (hm:mg "_law_name"=some (.ref f)):Callee P w K mg base 1 "_law_name" HN []:=by
 refine bN F hm vR (oA fun _ _ _ _ _ _ _=>rfl) (aE (aZ 1 vR.nd dR)
 (aE (bS (cB eB (cD (uv 0) aK) aK)
 (aH (aQ (aL dR (cD (eR (uv 0) aK) aK))))
 bD)
 (aH (aQ (dF (own:=false) (aL (uv 1) (cD (eR (uv 0) aK) aK)) (mD (own:=false) (aL (uv 1) (cD (eR (uv 0) aK) aK)) (cD (eR (uv 0) aK) aK))))))) ?_
 rintro us M Q ⟨c,rfl,q⟩
 refine ⟨rfl,?_⟩
 have hL:Dt.cps.toList.length=26:=by decide +kernel
 have hL2:(Dt.length<=sizeLine):=by decide +kernel
 have hA:PyData.strOk Dt=true:=by decide +kernel
 have hX:(Str.ofString "xyxz").cps.toList.length=4:=by decide +kernel
 have hX2:((Str.ofString "xyxz").length<=sizeLine):=by decide +kernel
 have hXA:PyData.strOk (Str.ofString "xyxz")=true:=by decide +kernel
 have lt:∀ m:Int,∃ c,dM Dt.cps.toList (m % 26)=some c:=fun m=>uN Dt.cps.toList (m % 26) (Int.emod_nonneg _ (by decide)) (by rw [hL];exact Int.emod_lt_of_pos _ (by decide))
 have lA:∀ c∈Dt.cps.toList,97<=c/\c<=122:=by decide +kernel
 have lX:∀ c∈(Str.ofString "xyxz").cps.toList,97<=c/\c<=122:=by decide +kernel
 dsimp! only [true_and]
 refine ⟨by decide,mI (fun _=>?_) (fun _=>?_)⟩
 ·obtain ⟨x,hx⟩:=uN (Str.ofString "xyxz").cps.toList (c / 3 % 4) (Int.emod_nonneg _ (by decide)) (by rw [hX];exact Int.emod_lt_of_pos _ (by decide))
  exact ⟨⟨by decide,by decide⟩,by decide,hX2,x,hx,aN (q _ ⟨Ex hXA hx,by show 1<=1;decide,fun d hd=>by cases List.mem_singleton.mp hd;exact lX _ (rT hx)⟩ (by show 1<=8;decide))⟩
 ·obtain ⟨x,hx⟩:=lt (c / 3)
  obtain ⟨y,hy⟩:=lt (c / 78)
  have n0:=Int.emod_nonneg (c / 2028) (show (8:Int)≠0 by decide)
  have n1:=Int.emod_lt_of_pos (c / 2028) (show (0:Int) < 8 by decide)
  have l1:(⟨#[x]⟩:Str).length=1:=rfl
  have l2:(⟨#[y]⟩:Str).length=1:=rfl
  have l3:=Mx ⟨#[y]⟩ (c / 2028 % 8)
  rw [l2] at l3
  refine ⟨⟨by decide,by decide⟩,by decide,hL2,x,hx,⟨by decide,by decide⟩,by decide,hL2,y,hy,⟨by decide,by decide⟩,by decide,by omega,by omega,by rw [l2];decide,by rw [l2];omega,small (by rw [l1];omega),aN (q _ ⟨Iz (Ex hA hx) (GS (Ex hA hy) _),by rw [len_app,l1];omega,fun d hd=>by rw [Mh] at hd;rcases List.mem_append.mp hd with hd | hd;exact (by cases List.mem_singleton.mp hd;exact lA _ (rT hx));exact lA _ (by rw [Mn hd];exact rT hy)⟩ ?_)⟩
  rw [len_app,l1];omega
def pW (l:List Str):U:=.tup (l.map .str)
def GN:bF:=fun us M Q=>∃ (c:Int) (ss:List Str) (room:Int),us=[.int c,pW ss,.int room]/\ss≠[]/\(∀ s∈ss,PyData.strOk s=true)/\∀ p:Pt,p.ok->p.leafy=true->(p.holes=1->0 < room)->Q p.toU M
theorem MN (F:cL K "_law_leaf" "_law_leaf" kZ f fd) (hm:mg "_law_leaf"=some (.ref f)) (bU:mg "len"=none) (sV:mg "max"=none) (nX:Callee P w K mg base 1 "_law_great" sG []):Callee P w K mg base 2 "_law_leaf" GN []:=by
 refine bN F hm vS (Ah fun _ _ _ _ _ _ _ _ _=>rfl) (aE (bS (i8.pt (qA (cB yK (uv 2) aK) (rN (cB xP (cD (uv 0) aK) aK))))
 (aH (aQ (bC (aA dR (aA (aL (uv 1) (cD (eR (uv 0) aK) (cA iJ bU (aA (uv 1) aB)))) aB)))))
 bD)
 (aE (bS (cB eB (cD (uv 0) aK) aK)
 (aH (aQ (bC (aA dR aB))))
 bD)
 (aE (aZ 3 vS.nd (aP nX (aA (eR (uv 0) aK) aB)))
 (aH (aQ (bC (aA dR (aA (uv 3) (aA (cA BX sV (aA (uv 3) (aA (aP nX (aA (eR (uv 0) aK) aB)) aB))) aB))))))))) ?_
 rintro us M Q ⟨c,ss,room,rfl,hne,hs,q⟩
 refine ⟨rfl,?_⟩
 have hl:0 < (ss.length:Int):=by have:=List.length_pos_iff.mpr hne;omega
 obtain ⟨s,hat⟩:=uN ss (c / 5 % (ss.length:Int)) (Int.emod_nonneg _ (by omega)) (Int.emod_lt_of_pos _ hl)
 have hat2:dM (ss.map U.str) (c / 5 % (ss.length:Int))=some (.str s):=by
  unfold dM at hat ⊢
  rw [List.length_map]
  cases e:qQ ss.length (c / 5 % (ss.length:Int)) with
  | none=>rw [e] at hat;cases hat
  | some j =>
   rw [e] at hat
   have hat':ss[j]?=some s:=hat
   show (ss.map U.str)[j]?=_
   rw [List.getElem?_map,hat'];rfl
 have fin:(0:Int) < 5/\if decide (c % 5=3)=true then iP Q (U.tup [U.str (Str.ofString "any")]) M else AQ c 5/\sG [U.int (c / 5)] M fun x M1=>AQ c 7/\sG [U.int (c / 7)] M1 fun x_1 M1=>p7 [x,x_1] M1 fun x_2 M1=>iP Q (U.tup [U.str (Str.ofString "from"),x,x_2]) M1:=by
  refine ⟨by decide,mI (fun _=>aN (q .any trivial rfl (fun z=>by cases z))) (fun _=>?_)⟩
  refine ⟨⟨by decide,by decide⟩,_,rfl,fun n h1 h2=>⟨⟨by decide,by decide⟩,_,rfl,fun m k1 k2=>?_⟩⟩
  dsimp! only [true_and]
  refine aN (q (.fr n (if m > n then m else n)) ⟨h1,by split <;> omega,by split <;> omega⟩ rfl (fun z=>by cases z))
 dsimp! only [pW,List.length_map]
 refine mI (fun h=>⟨by decide,mI (fun _=>?_) (fun _=>?_)⟩) (fun h=>?_)
 ·refine ⟨⟨by decide,by decide⟩,hl,_,hat2,aN (q (.hole s) (hs s (rT hat)) rfl fun _=>of_decide_eq_true h)⟩
 ·simpa only [pB,pA,eJ,iK,h9,jZ,qZ,fP,items,nS,rG,iW,n8,xT,xH,at2,zW,Option.some.injEq,exists_eq_left',true_and,and_true,tR,rA,iS,pH,mR,bP,bY,p7,uL,Ad,xG,xX,xY,mL,fG,oE,oJ,vP,qY,qU,rB,lR,qN,gO,fK,uC,kH,b8,cH,o7,cF,hName,fH,vQ,j6,oM,uI,gI,rH,n4,vN,pM,rE,j2,iR,kS,mW,nO,rD,mQ,qO,mU,j9,lM,nZ,lH,lK,lL,lG,kG,aS,gM,nM,uB,uA,pL,qH,gK,mJ,pZ,qW,jX,nV,tK,kQ,nW,qD,mN,oW, List.map_cons,List.map_nil,List.length_cons,List.length_nil,List.cons_append,List.nil_append,List.replicate,List.getElem?_cons_zero,List.getElem?_cons_succ,List.set_cons_zero,List.set_cons_succ,List.append_nil,Nat.reduceAdd,Nat.reduceSub,Nat.sub_self,Nat.add_sub_cancel,Bool.not_false,Bool.not_true,if_true,if_false,Bool.false_eq_true,reduceCtorEq,decide_true,decide_false,cQ,cY,cZ,cM,cS,cR,e6,fQ,fR,d7,eW,fB,gC,gR,gP,e8,gG,fY,fV,gQ,gS,eV,fO,fS,d8,eT,eU,dI,dX,d4,eY,fX,gA,dW,eX,fC,fD,gF,fZ,dZ,fA,e7,tJ,uS,aD,dE,n6,DZ,Nat.reduceLeDiff,Option.getD_some] using fin
 ·simpa only [pB,pA,eJ,iK,h9,jZ,qZ,fP,items,nS,rG,iW,n8,xT,xH,at2,zW,Option.some.injEq,exists_eq_left',true_and,and_true,tR,rA,iS,pH,mR,bP,bY,p7,uL,Ad,xG,xX,xY,mL,fG,oE,oJ,vP,qY,qU,rB,lR,qN,gO,fK,uC,kH,b8,cH,o7,cF,hName,fH,vQ,j6,oM,uI,gI,rH,n4,vN,pM,rE,j2,iR,kS,mW,nO,rD,mQ,qO,mU,j9,lM,nZ,lH,lK,lL,lG,kG,aS,gM,nM,uB,uA,pL,qH,gK,mJ,pZ,qW,jX,nV,tK,kQ,nW,qD,mN,oW, List.map_cons,List.map_nil,List.length_cons,List.length_nil,List.cons_append,List.nil_append,List.replicate,List.getElem?_cons_zero,List.getElem?_cons_succ,List.set_cons_zero,List.set_cons_succ,List.append_nil,Nat.reduceAdd,Nat.reduceSub,Nat.sub_self,Nat.add_sub_cancel,Bool.not_false,Bool.not_true,if_true,if_false,Bool.false_eq_true,reduceCtorEq,decide_true,decide_false,cQ,cY,cZ,cM,cS,cR,e6,fQ,fR,d7,eW,fB,gC,gR,gP,e8,gG,fY,fV,gQ,gS,eV,fO,fS,d8,eT,eU,dI,dX,d4,eY,fX,gA,dW,eX,fC,fD,gF,fZ,dZ,fA,e7,tJ,uS,aD,dE,n6,DZ,Nat.reduceLeDiff,Option.getD_some] using fin
def lD:Pt->PyData
 | .hole c=>.tuple [.str "at",.str c]
 | .any=>.tuple [.str "any"]
 | .fr l h=>.tuple [.str "from",.int l,.int h]
 | .turn a=>.tuple [.str "turn",lD a]
 | .two o a b=>.tuple [.str o.word,lD a,lD b]
theorem AI:∀ p:Pt,toD p.toU=some (lD p)
 | .hole c=>by simp [Pt.toU,toD,dS,lD]
 | .any=>by simp [Pt.toU,toD,dS,lD]
 | .fr l h=>by simp [Pt.toU,toD,dS,lD]
 | .turn a=>by simp [Pt.toU,toD,dS,lD,AI a]
 | .two o a b=>by simp [Pt.toU,toD,dS,lD,AI a,AI b]
theorem Gg:∀ p:Pt,p.ok->(lD p).canLay0=true
 | .hole c,h=>by
  have h':PyData.strOk c=true:=h
  simp only [lD,PyData.canLay0,PyData.canLayAll0,h'];decide +kernel
 | .any,_=>by decide +kernel
 | .fr l h,_=>by simp only [lD,PyData.canLay0,PyData.canLayAll0];decide +kernel
 | .turn a,h=>by simp only [lD,PyData.canLay0,PyData.canLayAll0,Gg a h];decide +kernel
 | .two o a b,h=>by
  have:PyData.strOk o.word=true:=by cases o <;> decide +kernel
  simp only [lD,PyData.canLay0,PyData.canLayAll0,Gg a h.1,Gg b h.2,this];decide +kernel
def nN:Tr->PyData
 | .num n=>.tuple [.str "num",.int n]
 | .name x=>.tuple [.str "name",.str x]
 | .turn a=>.tuple [.str "turn",nN a]
 | .two o a b=>.tuple [.str o.word,nN a,nN b]
theorem FX:∀ p:Tr,toD p.toU=some (nN p)
 | .num c=>by simp [Tr.toU,toD,dS,nN]
 | .name c=>by simp [Tr.toU,toD,dS,nN]
 | .turn a=>by simp [Tr.toU,toD,dS,nN,FX a]
 | .two o a b=>by simp [Tr.toU,toD,dS,nN,FX a,FX b]
theorem KS:∀ p:Tr,p.ok->(nN p).canLay0=true
 | .num c,h=>by simp only [nN,PyData.canLay0,PyData.canLayAll0];decide +kernel
 | .name c,h=>by
  have h':PyData.strOk c=true:=h.1
  simp only [nN,PyData.canLay0,PyData.canLayAll0,h'];decide +kernel
 | .turn a,h=>by simp only [nN,PyData.canLay0,PyData.canLayAll0,KS a h];decide +kernel
 | .two o a b,h=>by
  have:PyData.strOk o.word=true:=by cases o <;> decide +kernel
  simp only [nN,PyData.canLay0,PyData.canLayAll0,KS a h.1,KS b h.2,this];decide +kernel
theorem Nb {us:List U} {ds:List PyData} {p:Addr} {M:aF} {Q:UK} (hM:M p=some (.lst us)) (h:dS us=some ds) (hl:PyData.canLayAll0 ds=true) (q:Q (.bl (!us.isEmpty)) M):kD true (.ref p) (.lst []) M Q:=by
 have e1:nH M (.ref p)=some (.list ds):=by simp only [nH,hM,h,Option.map_some]
 have e2:nH M (.lst [])=some (.list []):=by simp [nH,toD,dS]
 show yR true _ _ M Q
 refine ⟨_,_,e1,e2,by simp only [PyData.canLay0];exact hl,by decide +kernel,by simp [PyData.depth,PyData.depthAll],?_⟩
 have e3:PyData.eqv (.list ds) (.list [])=us.isEmpty:=by
  rw [PyData.eqv]
  cases us with
  | nil=>simp only [dS,Option.some.injEq] at h;subst h;rfl
  | cons u us =>
   simp only [dS] at h
   cases e:toD u with
   | none=>rw [e] at h;cases h
   | some d =>
    rw [e] at h
    cases e':dS us with
    | none=>rw [e'] at h;cases h
    | some ds'=>rw [e'] at h;cases h;rfl
 simp only [e3,if_true]
 exact q
def dH (p:Pt):U:=.tup [p.toU,.int (p.dep:Nat)]
theorem Iw (l:List Pt):dS (l.map dH)=some (l.map fun p=>PyData.tuple [lD p,.int (p.dep:Nat)]):=by
 induction l with
 | nil=>simp [dS]
 | cons p l ih=>simp [dS,toD,dH,AI,ih]
theorem Jk (l:List Pt) (h:∀ p∈l,p.ok):PyData.canLayAll0 (l.map fun p=>PyData.tuple [lD p,.int (p.dep:Nat)])=true:=by
 induction l with
 | nil=>simp [PyData.canLayAll0]
 | cons p l ih =>
  simp only [List.map_cons,PyData.canLayAll0,PyData.canLay0,Gg p (h p List.mem_cons_self),ih fun x hx=>h x (List.mem_cons_of_mem _ hx)];rfl
def jB:List Pt->Nat
 | []=>0
 | p :: r=>p.holes + jB r
theorem lT:∀ l r:List Pt,jB (l++r)=jB l + jB r
 | [],_=>by simp [jB]
 | t :: l,r=>by simp [jB,lT l r];omega
theorem Qm {α:Type} (m:List α):m=[]\/(∃ t,m=[t])\/∃ r s t,m=r++[s,t]:=by
 have key:∀ l:List α,l.reverse=[]\/(∃ t,l.reverse=[t])\/∃ r s t,l.reverse=r++[s,t]:=by
  intro l
  cases l with
  | nil=>exact .inl rfl
  | cons a l=>cases l with
   | nil=>exact .inr (.inl ⟨a,rfl⟩)
   | cons b l=>exact .inr (.inr ⟨l.reverse,b,a,by simp⟩)
 have:=key m.reverse
 rw [List.reverse_reverse] at this
 exact this
def vM (n:Int):Op:=if n % 3=0 then .sum else if n % 3=1 then .less else .by_
theorem PY (n:Int):dM [U.str (Str.ofString "sum"),U.str (Str.ofString "less"),U.str (Str.ofString "by")] (n % 3)=some (.str (vM n).word):=by
 have e:n % 3=0\/n % 3=1\/n % 3=2:=by omega
 rcases e with e | e | e
 ·rw [e,show vM n=.sum by simp [vM,e]];exact xT
 ·rw [e,show vM n=.less by simp [vM,e]];exact xH
 ·rw [e,show vM n=.by_ by simp [vM,e]];exact at2
theorem HY (p:Pt) (h:p.leafy=true):∃ z r,p.toU=.tup (.str z :: r)/\decide (z=Str.ofString "at")=decide (p.holes=1)/\p.holes<=1/\p.dep=1:=by
 cases p with
 | hole c=>exact ⟨_,_,rfl,by simp [Pt.holes],by simp [Pt.holes],rfl⟩
 | any=>exact ⟨_,_,rfl,by simp [Pt.holes,h7,gZ,g6,g9,hZ,hC,hJ],by simp [Pt.holes],rfl⟩
 | fr l h=>exact ⟨_,_,rfl,by simp [Pt.holes,h7,gZ,g6,g9,hZ,hC,hJ],by simp [Pt.holes],rfl⟩
 | turn a=>cases h
 | two o a b=>cases h
def zQ:bF:=fun us M Q=>∃ (l:List Int) (ss:List Str),us=[.lst (l.map .int),pW ss]/\l≠[]/\l.length<=60/\ss≠[]/\(∀ s∈ss,PyData.strOk s=true)/\∀ p:Pt,p.ok->p.dep<=5->p.holes<=4->Q p.toU M
theorem aM {u v:US} {D:o6} {τ:SU} {M:aF} (h:∀ V:SU->aF->Prop,V=v D->u { D with nx:=V } τ M):oE u v D τ M:=h _ rfl
theorem bQ {c:UT} {t u:US} {D:o6} {τ:SU} {M:aF} (h:∀ A B:aF->Prop,A=t D τ->B=u D τ->c τ M fun b M1=>if b=true then A M1 else B M1):oJ c t u D τ M:=h _ _ rfl rfl
local macro_rules | `(tactic| simp! only [$xs,*] $[$l]?) => `(tactic| simp only [$xs,*, Bool.false_eq_true, Bool.not_false, Bool.not_true, List.append_nil, List.cons_append, List.getElem?_cons_succ, List.getElem?_cons_zero, List.length_cons, List.length_nil, List.map_cons, List.map_nil, List.nil_append, List.replicate, List.set_cons_succ, List.set_cons_zero, Nat.add_sub_cancel, Nat.reduceAdd, Nat.reduceLeDiff, Nat.reduceSub, Nat.sub_self, Option.getD_some, Option.some.injEq, and_true, xT, xH, at2, zW, rD, uS, mQ, qO, mW, nO, mU, p7, uL, j9, xY, xX, xG, Ad, eJ, decide_false, decide_true, pB, pA, exists_eq_left', if_false, if_true, tK, gK, cQ, cR, cY, cS, cZ, cM, e6, fB, fQ, eW, fR, d7, fD, e7, gF, fA, fZ, dZ, gC, fY, gR, gG, gP, e8, eY, fC, fX, eX, gA, dW, fV, fS, gQ, fO, gS, eV, d8, d4, eT, dX, eU, dI, items, iS, n8, iW, pH, j2, gM, aS, reduceCtorEq, fG, DZ, true_and, nM, mJ, mL, qY, gI, tR, rA, uC, qN, kS, mR, j6, gO, nS, n6, uB, uI, oM, vN, pL, kQ, pZ, rE, qZ, tJ, uA, kH, jX, qU, qH, n4, fH, vP, rH, nV, nW, qD, qW, lR, rB, pM, vQ, fK, rG, nZ, lH, lG, lM, kG, lK, lL] $[$l]?)
theorem EN (F:cL K "_law_pattern" "_law_pattern" iG f fd) (hm:mg "_law_pattern"=some (.ref f)) (bU:mg "len"=none) (sV:mg "max"=none) (kO:mg "int"=none) (Ge:Callee P w K mg base 2 "_law_leaf" GN []):Callee P w K mg base 3 "_law_pattern" zQ []:=by
 refine bN F hm dC (oP fun _ _ _ _ _ _ _ _=>rfl) (aE (aZ 2 dC.nd (cU (own:=true) aB))
 (aE (aZ 3 dC.nd aK)
 (aE (i7 (dO (uv 0)) (aY (k:=1000) 4 dC.nd)
 (aH (bS (i8.pt (qA (cB eB (cD (uv 4) aK) aK) (qA (cB lQ (uv 2) (cU (own:=false) aB)) (rN (cB xP (aL (aL (uv 2) (uK aK)) aK) aK)))))
 (aE (aZ 5 dC.nd (rK (uv 2)))
 (aH (gX (iI (uv 2) (aA (bC (aA (bC (aA dR (aA (aL (uv 5) aK) aB))) (aA (dF (own:=false) (aL (uv 5) aK) aK) aB))) aB)))))
 (aH (bS (i8.pt (qA (cB yK (cD (uv 4) aK) aK) (qA (cB yK (cA iJ bU (aA (uv 2) aB)) aK) (rN (cB xP (cA BX sV (aA (aL (aL (uv 2) (uK aK)) aK) (aA (aL (aL (uv 2) (uK aK)) aK) aB))) aK)))))
 (aE (aZ 5 dC.nd (rK (uv 2)))
 (aE (aZ 6 dC.nd (rK (uv 2)))
 (aE (aZ 7 dC.nd (aL (cU (own:=false) (aA dR (aA dR (aA dR aB)))) (cD (eR (uv 4) aK) aK)))
 (aH (gX (iI (uv 2) (aA (bC (aA (bC (aA (uv 7) (aA (aL (uv 6) aK) (aA (aL (uv 5) aK) aB)))) (aA (dF (own:=false) aK (cA BX sV (aA (aL (uv 6) aK) (aA (aL (uv 5) aK) aB)))) aB))) aB)))))))
 (aE (gX (iI (uv 2) (aA (bC (aA (aP Ge (aA (eR (uv 4) aK) (aA (uv 1) (aA (uv 3) aB)))) (aA aK aB))) aB)))
 (aH (aZ 3 dC.nd (BM (uv 3) (qT QB kO (aA (p9 eB (aL (aL (aL (uv 2) (uK aK)) aK) aK) dR) aB)))))))))))
 (aH (aQ (aL (aL (uv 2) (uK aK)) aK)))))) ?_
 rintro us M Q ⟨l,ss,rfl,hln,hll,hne,hss,q⟩
 refine ⟨rfl,?_⟩
 refine aM fun V hV=>?_
 simp! only [cF,hName,fP,bP,bY,aD,dE,bJ,bE,eD,bI]
 intro p hp
 subst hV
 refine aM fun V hV=>?_
 simp! only [cF,hName,fP,bP,bY,aD,dE,bJ,bE,eD,bI]
 subst hV
 refine aM fun V hV=>?_
 refine gE (S:=⟨none,l.map U.int⟩) (M1:=mup M p (.lst [])) (fun R r=>by simp! only [fP,bP,bY,aD,dE,bJ,bE,eD,bI];exact r)
  (fun i τ Mi=>∃ (st:List Pt) (room:Int) (a b c e:Option U),τ=[some (.lst (l.map .int)),some (pW ss),some (.ref p),some (.int room),a,b,c,e]/\Mi=mup M p (.lst (st.map dH))/\(∀ q∈st,q.ok/\q.dep<=5)/\(jB st:Int) + room=4/\0<=room/\st.length<=i/\(0 < i->st≠[]))
  ⟨[],4,none,none,none,none,rfl,rfl,(fun q h=>by cases h),by simp [jB],by decide,by simp,fun z=>by omega⟩ nk ?_ ?_
 ·rintro i x τ Mi e ⟨st,room,a,b,c,e',rfl,rfl,hok,hsum,hroom,hlen,hn0⟩
  have hi:i < 60:=by
   have:=(List.getElem?_eq_some_iff.mp e).1
   simp at this;omega
  obtain ⟨n,rfl⟩:∃ n,x=U.int n:=by
   obtain ⟨c,_,e⟩:=List.mem_map.mp (List.mem_of_getElem? e)
   exact ⟨c,e.symm⟩
  have hds:=Iw st
  have hly:=Jk st fun q hq=>(hok q hq).1
  simp! only [hName,fP,bP,bY,aD,dE,bJ,bE,eD,bI]
  generalize hP:(fun (τ:SU) (Mi:aF)=>∃ (st:List Pt) (room:Int) (a b c e:Option U),τ=[some (.lst (l.map .int)),some (pW ss),some (.ref p),some (.int room),a,b,c,e]/\Mi=mup M p (.lst (st.map dH))/\(∀ q∈st,q.ok/\q.dep<=5)/\(jB st:Int) + room=4/\0<=room/\st.length<=i + 1/\(0 < i + 1->st≠[]))=PP
  have into:∀ (st:List Pt) (room:Int) (a b c e:Option U),(∀ q∈st,q.ok/\q.dep<=5)->(jB st:Int) + room=4->0<=room->st.length<=i + 1->st≠[]->PP [some (.lst (l.map .int)),some (pW ss),some (.ref p),some (.int room),a,b,c,e] (mup M p (.lst (st.map dH))):=fun st room a b c e h1 h2 h3 h4 h5=>by
   rw [<- hP];exact ⟨st,room,a,b,c,e,rfl,rfl,h1,h2,h3,h4,fun _=>h5⟩
  refine bQ fun A B hA hB=>?_
  have hb:B (mup M p (.lst (st.map dH))):=by
   subst hB
   refine bQ fun A2 B2 hA2 hB2=>?_
   have hb2:B2 (mup M p (.lst (st.map dH))):=by
    subst hB2
    refine aM fun V1 hV1=>?_
    simp! only [iR,fP,bP,bY,aD,dE,bJ,bE,eD,bI]
    refine ⟨dY,⟨by decide,by decide⟩,_,ss,room,rfl,hne,hss,fun pt g1 g2 g3=>?_⟩
    simp! only [fP,bP,bY,aD,dE,bJ,bE,eD,bI]
    refine ⟨big (by rw [List.length_map];omega),?_⟩
    subst hV1
    obtain ⟨z,rr,e,e1,e2,e3⟩:=HY pt g2
    simp! only [cF,hName,Bj,e,e1,fP,bP,bY,aD,dE,bJ,bE,eD,bI]
    have hen:st.map dH++[.tup [.tup (.str z :: rr),.int 1]]=(st++[pt]).map dH:=by
     simp [dH,e,e3]
    rw [hen]
    refine into (st++[pt]) _ _ _ _ _ ?_ ?_ ?_ (by rw [List.length_append];simp;omega) (by simp)
    ·intro q hq
     rcases List.mem_append.mp hq with hq | hq
     ·exact hok q hq
     ·cases List.mem_singleton.mp hq;exact ⟨g1,by omega⟩
    ·rw [lT]
     simp only [jB]
     by_cases hh:pt.holes=1
     ·rw [decide_eq_true hh];simp only [if_true];omega
     ·rw [decide_eq_false hh];simp only [Bool.false_eq_true,if_false];omega
    ·by_cases hh:pt.holes=1
     ·have:=g3 hh;rw [decide_eq_true hh];simp only [if_true];omega
     ·rw [decide_eq_false hh];simp only [Bool.false_eq_true,if_false];omega
   simp! only [List.length_map,fP,bP,bY,aD,dE,bJ,bE,eD,bI]
   refine ⟨by decide,mI (fun _=>?_) (fun _=>?_)⟩
   ·rcases Qm st with rfl | ⟨t,rfl⟩ | ⟨r,s,t,rfl⟩
    ·exact hb2
    ·exact hb2
    ·have d2:decide ((1:Int) < (((r++[s,t]).length:Nat):Int))=true:=decide_eq_true (by rw [List.length_append];simp;omega)
     have gt:=hok t (by simp)
     have gs:=hok s (by simp)
     have hm:(r++[s,t]).map dH=r.map dH++[dH s,dH t]:=by simp
     simp! only [d2,hm,PU,OS,dH,fP,bP,bY,aD,dE,bJ,bE,eD,bI]
     refine mI (fun hd=>?_) (fun _=>by rw [hm] at hb2;exact hb2)
     have hdd:max t.dep s.dep < 5:=by
      have:=of_decide_eq_true hd
      split at this <;> omega
     subst hA2
     refine aM fun V1 hV1=>?_
     simp! only [cF,hName,Rn,Rf,fP,bP,bY,aD,dE,bJ,bE,eD,bI]
     refine ⟨dY,?_⟩
     subst hV1
     refine aM fun V1 hV1=>?_
     simp! only [cF,hName,JS,IQ,fP,bP,bY,aD,dE,bJ,bE,eD,bI]
     refine ⟨dY,?_⟩
     subst hV1
     refine aM fun V1 hV1=>?_
     simp! only [cF,hName,fP,bP,bY,aD,dE,bJ,bE,eD,bI]
     refine ⟨⟨by decide,by decide⟩,by decide,_,PY _,?_⟩
     subst hV1
     simp! only [iR,fP,bP,bY,aD,dE,bJ,bE,eD,bI]
     refine ⟨dY,?_⟩
     have hen:∀ v:Int,v=((max s.dep t.dep + 1:Nat):Int)->r.map dH++[.tup [.tup [.str (vM (n / 4)).word,s.toU,t.toU],.int v]]=(r++[Pt.two (vM (n / 4)) s t]).map dH:=fun v hv=>by
      rw [hv];simp [dH,Pt.toU,Pt.dep]
     try simp! only [fP,bP,bY,aD,dE,bJ,bE,eD,bI]
     refine ⟨big (by simp at hlen ⊢;omega),?_⟩
     have hen2:=hen _ (show (1:Int) + (if (t.dep:Int) > (s.dep:Int) then (t.dep:Int) else (s.dep:Int))=((max s.dep t.dep + 1:Nat):Int) by split <;> omega)
     try simp only [dH] at hen2 ⊢
     rw [hen2]
     have hsum2:=hsum
     rw [lT] at hsum2
     simp only [jB] at hsum2
     refine into (r++[Pt.two (vM (n / 4)) s t]) room _ _ _ _ ?_ (by rw [lT];simp only [jB,Pt.holes];omega) hroom (by simp at hlen ⊢;omega) (by simp)
     intro q hq
     rcases List.mem_append.mp hq with hq | hq
     ·exact hok q (List.mem_append_left _ hq)
     ·cases List.mem_singleton.mp hq
      exact ⟨⟨gs.1,gt.1⟩,by simp only [Pt.dep];omega⟩
   ·exact hb2
  simp! only [fP,bP,bY,aD,dE,bJ,bE,eD,bI]
  refine ⟨by decide,mI (fun _=>Nb aS hds hly ?_) (fun _=>hb)⟩
  rcases List.eq_nil_or_concat st with rfl | ⟨r,t,rfl⟩
  ·simp only [List.map_nil,List.isEmpty_nil,Bool.not_true,Bool.false_eq_true,if_false]
   exact hb
  ·rw [List.concat_eq_append] at *
   have gt:=hok t (by simp)
   have hm:(r++[t]).map dH=r.map dH++[dH t]:=by simp
   have hie:(r.map dH++[dH t]).isEmpty=false:=by simp
   simp only [hm,hie,Bool.not_false,if_true]
   simp! only [Bj,dH,fP,bP,bY,aD,dE,bJ,bE,eD,bI]
   refine mI (fun hd=>?_) (fun _=>by rw [hm] at hb;exact hb)
   have hdt:=of_decide_eq_true hd
   subst hA
   refine aM fun V1 hV1=>?_
   simp! only [cF,hName,JS,IQ,fP,bP,bY,aD,dE,bJ,bE,eD,bI]
   refine ⟨dY,?_⟩
   subst hV1
   simp! only [iR,fP,bP,bY,aD,dE,bJ,bE,eD,bI]
   refine ⟨dY,?_⟩
   try simp! only [fP,bP,bY,aD,dE,bJ,bE,eD,bI]
   refine ⟨big (by simp at hlen ⊢;omega),?_⟩
   have hen:r.map dH++[.tup [.tup [.str (Str.ofString "turn"),t.toU],.int ((t.dep:Int) + 1)]]=(r++[Pt.turn t]).map dH:=by
    simp [dH,Pt.toU,Pt.dep]
   try simp only [dH] at hen ⊢
   rw [hen]
   have hsum2:=hsum
   rw [lT] at hsum2
   simp only [jB] at hsum2
   refine into (r++[Pt.turn t]) room _ _ _ _ ?_ (by rw [lT];simp only [jB,Pt.holes];omega) hroom (by simp at hlen ⊢;omega) (by simp)
   intro q hq
   rcases List.mem_append.mp hq with hq | hq
   ·exact hok q (List.mem_append_left _ hq)
   ·cases List.mem_singleton.mp hq
    exact ⟨gt.1,by simp only [Pt.dep];omega⟩
 ·rintro τ Mi ⟨st,room,a,b,c,e',rfl,rfl,hok,hsum,hroom,hlen,hn0⟩
  have hpos:0 < (Src.mk none (l.map U.int)).xs.length:=by
   have:=List.length_pos_iff.mpr hln
   simpa using this
  rcases List.eq_nil_or_concat st with rfl | ⟨r,t,rfl⟩
  ·exact absurd rfl (hn0 hpos)
  ·have hok':=hok t (by simp)
   have hsum':(jB r:Int) + t.holes + room=4:=by
    have h2:jB (r.concat t)=jB r + t.holes:=by rw [List.concat_eq_append,lT];simp [jB]
    rw [h2] at hsum;omega
   subst hV
   have hm:(r.concat t).map dH=r.map dH++[dH t]:=by simp
   simp! only [cH,hm,Bj,dH,fP,bP,bY,aD,dE,bJ,bE,eD,bI]
   exact ⟨_,M,(Sub.refl M).mup hp,.inl rfl,q t hok'.1 hok'.2 (by omega)⟩
def cG (p:List Nat):U:=.tup (p.map fun (n:Nat)=>.int (n:Int))
def bT (x:List Nat × Pt):U:=.tup [cG x.1,x.2.toU]
def cV:Pt->List Nat->List (List Nat × Pt)
 | .turn a,pl=>cV a (pl++[0])
 | .two _ a b,pl=>cV a (pl++[0])++cV b (pl++[1])
 | p,pl=>[(pl,p)]
theorem kM:∀ (p:Pt) (pl:List Nat),(cV p pl).map (·.2)=p.ends
 | .turn a,pl=>by simp only [cV,Pt.ends,kM a]
 | .two _ a b,pl=>by simp only [cV,Pt.ends,List.map_append,kM a,kM b]
 | .hole _,pl=>rfl
 | .any,pl=>rfl
 | .fr _ _,pl=>rfl
theorem mF:∀ (p:Pt) (pl:List Nat),(cV p pl).length<=2 ^ p.dep
 | .turn a,pl=>by have:=mF a (pl++[0]);simp only [cV,Pt.dep,Nat.pow_succ];omega
 | .two _ a b,pl=>by
  have h1:=mF a (pl++[0])
  have h2:=mF b (pl++[1])
  have h3:2 ^ a.dep<=2 ^ max a.dep b.dep:=Nat.pow_le_pow_right (by decide) (Nat.le_max_left _ _)
  have h4:2 ^ b.dep<=2 ^ max a.dep b.dep:=Nat.pow_le_pow_right (by decide) (Nat.le_max_right _ _)
  simp only [cV,Pt.dep,Nat.pow_succ,List.length_append];omega
 | .hole _,pl=>by simp [cV,Pt.dep]
 | .any,pl=>by simp [cV,Pt.dep]
 | .fr _ _,pl=>by simp [cV,Pt.dep]
theorem OU (z:Str):([U.str (Str.ofString "at"),U.str (Str.ofString "any"),U.str (Str.ofString "from")].any fun u=>B6 u (.str z))=(decide (Str.ofString "at"=z) || (decide (Str.ofString "any"=z) || decide (Str.ofString "from"=z))):=by
 have e:∀ a:Str,B6 (.str a) (.str z)=decide (a=z):=fun a=>by
  show (a == z)=_
  by_cases h:a=z
  ·subst h;simp
  ·simp [h]
 simp only [List.any_cons,List.any_nil,e,Bool.or_false]
def uE (n:Nat):bF:=fun us M Q=>∃ (p:Pt) (pl:List Nat),us=[p.toU,cG pl]/\p.dep<=n/\pl.length + n<=50/\n<=10/\Q (.lst ((cV p pl).map bT)) M
theorem LZ {n:Nat} (F:cL K "_law_ends" "_law_ends" jL f fd) (hm:mg "_law_ends"=some (.ref f)) (bW:mg "enumerate"=none) (sP:Callee P w K mg base (n + 1) "_law_ends" (uE n) []):Callee P w K mg base (n + 2) "_law_ends" (uE (n + 1)) []:=by
 refine bN F hm lF (oP fun _ _ _ _ _ _ _ _=>rfl) (aE (bS (cB Jn (aL (uv 0) aK) (bC (aA dR (aA dR (aA dR aB)))))
 (aH (aQ (cU (own:=false) (aA (bC (aA (uv 1) (aA (uv 0) aB))) aB))))
 bD)
 (aE (aZ 2 lF.nd (cU (own:=false) aB))
 (aE (i7 (t7 bW (aA (mV (own:=false) (uv 0) (iT aK) nA) aB)) (iX (n:=2) (bH (aY (k:=1000) 3 lF.nd) (bH (aY (k:=1000) 4 lF.nd) gY)))
 (aH (aZ 2 lF.nd (dF (own:=false) (uv 2) (aP sP (aA (uv 4) (aA (dF (own:=false) (uv 1) (bC (aA (uv 3) aB))) aB)))))))
 (aH (aQ (uv 2)))))) ?_
 rintro us M Q ⟨p,pl,rfl,hd,hpl,hn,q⟩
 refine ⟨rfl,?_⟩
 have fl:∀ z:Str,nU (.str z)=true:=fun _=>rfl
 have fl2:[U.str (Str.ofString "at"),U.str (Str.ofString "any"),U.str (Str.ofString "from")].all nU=true:=rfl
 have h10:∀ m,m<=10->2 ^ m<=1024:=fun m h=>Nat.pow_le_pow_right (n:=2) (by decide) h
 cases p with
 | turn a =>
  have hda:a.dep<=n:=by simp only [Pt.dep] at hd;omega
  dsimp! only [Pt.toU,h7,gZ,g6,g9,hZ,hC,hJ,OU,fl,fl2,Bool.or_false,wJ]
  refine gE (S:=⟨none,[.tup [.int 0,a.toU]]⟩) (M1:=M) (fun R r=>by first | exact r | simpa using r)
   (fun i τ Mi=>∃ (x y:Option U),τ=[some (Pt.turn a).toU,some (cG pl),some (.lst (if i=0 then [] else (cV a (pl++[0])).map bT)),x,y]/\Mi=M) ⟨none,none,rfl,rfl⟩ nk ?_ ?_
  ·rintro i x τ Mi e ⟨b,c,rfl,rfl⟩
   match i,e with
   | 0,e =>
    cases e
    dsimp! only [cG]
    refine ⟨small (by simp;omega),a,pl++[0],by simp [cG],hda,by simp;omega,by omega,?_⟩
    have hl:=mF a (pl++[0])
    have:=h10 a.dep (by omega)
    dsimp! only [true_and]
    exact ⟨small (by simp;omega),_,_,rfl⟩
   | i + 1,e=>cases e
  ·rintro τ Mi ⟨b,c,rfl,rfl⟩
   dsimp! only [Nat.one_ne_zero]
   simp only [cV] at q
   exact aN q
 | two o a c =>
  have hda:a.dep<=n/\c.dep<=n:=by simp only [Pt.dep] at hd;omega
  dsimp! only [Pt.toU,h7,gZ,g6,g9,hZ,hC,hJ,OU,fl,fl2,Bool.or_false,wJ]
  refine gE (S:=⟨none,[.tup [.int 0,a.toU],.tup [.int 1,c.toU]]⟩) (M1:=M) (fun R r=>by first | exact r | simpa using r)
   (fun i τ Mi=>∃ (x y:Option U),τ=[some (Pt.two o a c).toU,some (cG pl),some (.lst (if i=0 then [] else if i=1 then (cV a (pl++[0])).map bT else (cV a (pl++[0])).map bT++(cV c (pl++[1])).map bT)),x,y]/\Mi=M) ⟨none,none,rfl,rfl⟩ nk ?_ ?_
  ·rintro i x τ Mi e ⟨b,d,rfl,rfl⟩
   have hl:=mF a (pl++[0])
   have hl2:=mF c (pl++[1])
   have:=h10 a.dep (by omega)
   have:=h10 c.dep (by omega)
   match i,e with
   | 0,e =>
    cases e
    dsimp! only [cG]
    refine ⟨small (by simp;omega),a,pl++[0],by simp [cG],hda.1,by simp;omega,by omega,?_⟩
    dsimp! only [true_and]
    exact ⟨small (by simp;omega),_,_,rfl⟩
   | 1,e =>
    cases e
    dsimp! only [cG,Nat.one_ne_zero]
    refine ⟨small (by simp;omega),c,pl++[1],by simp [cG],hda.2,by simp;omega,by omega,?_⟩
    dsimp! only [true_and]
    exact ⟨small (by simp;omega),_,_,rfl⟩
   | i + 2,e=>cases e
  ·rintro τ Mi ⟨b,d,rfl,rfl⟩
   dsimp! only [Nat.reduceEqDiff]
   simp only [cV,List.map_append] at q
   exact aN q
 | _ =>
  dsimp! only [Pt.toU,h7,gZ,g6,g9,hZ,hC,hJ,OU,fl,fl2,Bool.true_or,Bool.or_true]
  exact aN q
def gD:List Pt->List U->Prop
 | [],bs=>bs=[]
 | .hole _ :: r,bs=>gD r bs
 | .any :: r,bs=>∃ z bs',bs=.str z :: bs'/\Bm z/\z.length<=8/\gD r bs'
 | .fr l h :: r,bs=>∃ n bs',bs=.int n :: bs'/\l<=n/\n<=h/\gD r bs'
 | _ :: _,_=>False
theorem nI:∀ {l r:List Pt} {bs cs:List U},gD l bs->gD r cs->gD (l++r) (bs++cs)
 | [],r,bs,cs,h,k=>by
  have h':bs=[]:=h
  subst h';exact k
 | .hole _ :: l,r,bs,cs,h,k=>nI (l:=l) h k
 | .any :: l,r,bs,cs,h,k=>by
  obtain ⟨z,bs',rfl,h1,h2,h3⟩:=h
  exact ⟨z,bs'++cs,rfl,h1,h2,nI h3 k⟩
 | .fr _ _ :: l,r,bs,cs,h,k=>by
  obtain ⟨n,bs',rfl,h1,h2,h3⟩:=h
  exact ⟨n,bs'++cs,rfl,h1,h2,nI h3 k⟩
 | .turn _ :: l,r,bs,cs,h,k=>h.elim
 | .two _ _ _ :: l,r,bs,cs,h,k=>h.elim
theorem oY:∀ {l r:List Pt} {bs:List U},gD (l++r) bs->∃ b1 b2,bs=b1++b2/\gD l b1/\gD r b2
 | [],r,bs,h=>⟨[],bs,rfl,rfl,h⟩
 | .hole _ :: l,r,bs,h=>oY (l:=l) h
 | .any :: l,r,bs,h=>by
  obtain ⟨z,bs',rfl,h1,h2,h3⟩:=h
  obtain ⟨b1,b2,rfl,k1,k2⟩:=oY h3
  exact ⟨.str z :: b1,b2,rfl,⟨z,b1,rfl,h1,h2,k1⟩,k2⟩
 | .fr _ _ :: l,r,bs,h=>by
  obtain ⟨z,bs',rfl,h1,h2,h3⟩:=h
  obtain ⟨b1,b2,rfl,k1,k2⟩:=oY h3
  exact ⟨.int z :: b1,b2,rfl,⟨z,b1,rfl,h1,h2,k1⟩,k2⟩
 | .turn _ :: l,r,bs,h=>h.elim
 | .two _ _ _ :: l,r,bs,h=>h.elim
def Dk:bF:=fun us M Q=>∃ (es:List (List Nat × Pt)) (s:Int),us=[.lst (es.map bT),.int s]/\es.length<=1000/\(∀ e∈es,e.2.leafy=true/\e.2.ok)/\∀ bs:List U,gD (es.map (·.2)) bs->Q (.lst bs) M
theorem J8 (F:cL K "_law_borne" "_law_borne" jU f fd) (hm:mg "_law_borne"=some (.ref f)) (bW:mg "enumerate"=none) (Es:Callee P w K mg base 1 "_law_name" HN []) (nR:Callee P w K mg base 1 "_law_mixed" yI []) (nX:Callee P w K mg base 1 "_law_great" sG []):Callee P w K mg base 2 "_law_borne" Dk []:=by
 refine bN F hm kC (oP fun _ _ _ _ _ _ _ _=>rfl) (aE (aZ 2 kC.nd (cU (own:=true) aB))
 (aE (i7 (tV bW (aA (uv 0) aB)) (iX (n:=2) (bH (aY (k:=1000) 3 kC.nd) (bH (iX (n:=2) (bH (aY (k:=1000) 4 kC.nd) (bH (aY (k:=1000) 5 kC.nd) gY))) gY)))
 (aE (bS (cB eB (aL (uv 5) aK) dR)
 (aH (gX (iI (uv 2) (aA (aP Es (aA (aP nR (aA (uv 1) (aA (uv 3) aB))) aB)) aB))))
 bD)
 (aH (bS (cB eB (aL (uv 5) aK) dR)
 (aH (gX (iI (uv 2) (aA (dF (own:=false) (aL (uv 5) aK) (cD (aP nX (aA (aP nR (aA (uv 1) (aA (uv 3) aB))) aB)) (dF (own:=false) (BM (aL (uv 5) aK) (aL (uv 5) aK)) aK))) aB))))
 bD))))
 (aH (aQ (uv 2))))) ?_
 rintro us M Q ⟨es,s,rfl,hl,hes,q⟩
 refine ⟨rfl,?_⟩
 dsimp! only [true_and]
 intro p hp
 refine gE (S:=⟨none,numbered (es.map bT)⟩) (M1:=mup M p (.lst [])) (fun R r=>r)
  (fun i τ Mi=>∃ (bs:List U) (a b c:Option U),τ=[some (.lst (es.map bT)),some (.int s),some (.ref p),a,b,c]/\Mi=mup M p (.lst bs)/\gD ((es.take i).map (·.2)) bs/\bs.length<=i) ⟨[],none,none,none,rfl,rfl,rfl,by simp⟩ nk ?_ ?_
 ·rintro i x τ Mi e ⟨bs,a,b,c,rfl,rfl,hb,hbl⟩
  obtain ⟨u,hu,rfl⟩:=pK e
  rw [List.getElem?_map] at hu
  cases hk:es[i]? with
  | none=>rw [hk] at hu;cases hu
  | some ee =>
   rw [hk] at hu
   cases hu
   obtain ⟨pl,pt⟩:=ee
   obtain ⟨g1,g2⟩:=hes _ (List.mem_of_getElem? hk)
   have hi:i < es.length:=(List.getElem?_eq_some_iff.mp hk).1
   have htk:(es.take (i + 1)).map (·.2)=(es.take i).map (·.2)++[pt]:=by
    rw [List.take_add_one,hk];simp
   rw [htk]
   have hbig:bs.length < sizeLine:=big (by omega)
   cases pt with
   | hole cc =>
    dsimp! only [bT,Pt.toU,h7,gZ,g6,g9,hZ,hC,hJ]
    exact ⟨bs,_,_,_,rfl,rfl,by have:=nI hb (show gD [.hole cc] [] from rfl);simpa using this,by omega⟩
   | any =>
    dsimp! only [bT,Pt.toU,h7,gZ,g6,g9,hZ,hC,hJ]
    refine ⟨dY,s,_,rfl,by omega,by omega,fun n hn=>⟨n,rfl,fun z h1 h2=>?_⟩⟩
    dsimp! only [true_and]
    exact ⟨hbig,bs++[.str z],_,_,_,rfl,rfl,nI hb ⟨z,[],rfl,h1,h2,rfl⟩,by simp;omega⟩
   | fr lo hi =>
    have hlh:0<=lo/\lo<=hi:=⟨g2.1,g2.2.1⟩
    dsimp! only [bT,Pt.toU,h7,gZ,g6,g9,hZ,hC,hJ]
    refine ⟨dY,s,_,rfl,by omega,by omega,fun n hn=>⟨n,rfl,fun m h1 h2=>?_⟩⟩
    dsimp! only [true_and]
    have r1:=Int.emod_nonneg m (show hi - lo + 1≠0 by omega)
    have r2:=Int.emod_lt_of_pos m (show 0 < hi - lo + 1 by omega)
    exact ⟨by omega,hbig,bs++[.int (lo + m % (hi - lo + 1))],_,_,_,rfl,rfl,nI hb ⟨_,[],rfl,by omega,by omega,rfl⟩,by simp;omega⟩
   | turn a=>cases g1
   | two o a b=>cases g1
 ·rintro τ Mi ⟨bs,a,b,c,rfl,rfl,hb,hbl⟩
  rw [pT,List.length_map,List.take_length] at hb
  dsimp! only [true_and]
  exact ⟨_,M,(Sub.refl M).mup hp,.inr ⟨p,_,rfl,aS,hp,rfl⟩,q bs hb⟩
def bZ:Pt->Tr->List U
 | .any,.name x=>[.str x]
 | .fr _ _,.num n=>[.int n]
 | .turn p,.turn a=>bZ p a
 | .two _ p q,.two _ a b=>bZ p a++bZ q b
 | _,_=>[]
def uY (n:Nat):bF:=fun us M Q=>∃ (p:Pt) (b t:Addr) (bs rb rt:List U) (ts:List Tr),us=[p.toU,.ref b,.ref t]/\p.dep<=n/\b≠t/\M b=some (.lst (bs++rb))/\M t=some (.lst (ts.map Tr.toU++rt))/\gD p.ends bs/\ts.length=p.holes/\(∀ x∈ts,x.ok/\x.dep<=20) /\
 ∀ (r:Tr) (M':aF),r.ok->r.dep<=p.dep + 20->gB p r=true->bZ p r=bs->M' b=some (.lst rb)->M' t=some (.lst rt)->(∀ x,x≠b->x≠t->M' x=M x)->Q r.toU M'
theorem Js {us:List U} {u:U} {M:aF} {a:Addr} {Q:UK} (h:M a=some (.lst (u :: us))) (q:Q u (mup M a (.lst us))):aD (.ref a) [.int 0] M Q:=by
 simp only [aD,h]
 refine ⟨by decide,by decide,0,u,?_,rfl,q⟩
 simp [seqIndex?]
theorem rW {M:aF} {a:Addr} {us:List U} (h:M a=some (.lst us)):DF M (.ref a):=⟨us,tH h⟩
theorem leave {M Mi:aF} {p0 b t:Addr} {rb rt:List U} {Q:UK} {u:U} (nb:b≠p0) (nt:t≠p0) (hp0:M p0=none) (hM:∀ x,x≠p0->x≠b->x≠t->Mi x=M x) (m1:Mi b=some (.lst rb)) (m2:Mi t=some (.lst rt))
  (q:∀ M':aF,M' b=some (.lst rb)->M' t=some (.lst rt)->(∀ x,x≠b->x≠t->M' x=M x)->Q u M'):iP Q u Mi:=by
 refine ⟨u,fun x=>if x=p0 then none else Mi x,fun x o hx=>?_,.inl rfl,q _ ?_ ?_ fun x h1 h2=>?_⟩
 ·have hx':(if x=p0 then none else Mi x)=some o:=hx
  split at hx'
  ·cases hx'
  ·exact hx'
 ·show (if b=p0 then none else Mi b)=_
  rw [if_neg nb];exact m1
 ·show (if t=p0 then none else Mi t)=_
  rw [if_neg nt];exact m2
 ·show (if x=p0 then none else Mi x)=_
  split
  ·rename_i z;rw [z,hp0]
  ·rename_i z;exact hM x z h1 h2
theorem Nd {n:Nat} (F:cL K "_law_laid" "_law_laid" jK f fd) (hm:mg "_law_laid"=some (.ref f)) (bA:mg "tuple"=none) (tP:Callee P w K mg base (n + 1) "_law_laid" (uY n) []):Callee P w K mg base (n + 2) "_law_laid" (uY (n + 1)) []:=by
  refine bN F hm rC (Ah fun _ _ _ _ _ _ _ _ _=>rfl) (aE (bS (cB eB (aL (uv 0) aK) dR)
  (aH (aQ (wD (uv 2) (aA aK aB))))
  bD)
  (aE (bS (cB eB (aL (uv 0) aK) dR)
  (aH (aQ (bC (aA dR (aA (wD (uv 1) (aA aK aB)) aB)))))
  bD)
  (aE (bS (cB eB (aL (uv 0) aK) dR)
  (aH (aQ (bC (aA dR (aA (wD (uv 1) (aA aK aB)) aB)))))
  bD)
  (aE (aZ 3 rC.nd (cU (own:=true) (aA (aL (uv 0) aK) aB)))
  (aE (i7 (dO (mV (own:=false) (uv 0) (iT aK) nA)) (aY (k:=1000) 4 rC.nd)
  (aH (gX (iI (uv 3) (aA (aP tP (aA (uv 4) (aA (uv 1) (aA (uv 2) aB)))) aB)))))
  (aH (aQ (qT sH bA (aA (uv 3) aB))))))))) ?_
  rintro us M Q ⟨p,b,t,bs,rb,rt,ts,rfl,hd,hbt,hb,ht,hbo,hts,htk,q⟩
  refine ⟨rfl,?_⟩
  have S1m:True:=trivial
  cases p with
  | hole c =>
    have e1:bs=[]:=hbo
    subst e1
    match ts,hts with
    | [x],_ =>
      obtain ⟨x1,x2⟩:=htk x List.mem_cons_self
      simp! only [Pt.toU,h7,gZ,g6,g9,hZ,hC,hJ,iK,h9,jZ,fP,bP,bY,oE,oJ,b8,cH,o7,cF,hName,iR,mN,oW,dE]
      refine ⟨rW ht,Js ht (aN (q x _ x1 (by omega) rfl rfl ?_ aS fun y h1 h2=>aT h2))⟩
      rw [aT hbt];exact hb
  | any =>
    obtain ⟨z,bs',rfl,h1,h2,h3⟩:=hbo
    have e1:bs'=[]:=h3
    subst e1
    have e2:ts=[]:=List.length_eq_zero_iff.mp hts
    subst e2
    simp! only [Pt.toU,h7,gZ,g6,g9,hZ,hC,hJ,iK,h9,jZ,fP,bP,bY,oE,oJ,b8,cH,o7,cF,hName,iR,mN,oW,dE]
    refine ⟨rW hb,Js hb ?_⟩
    refine aN (q (.name z) _ ⟨h1.1,by omega⟩ (by simp [Tr.dep,Pt.dep]) rfl rfl aS ?_ fun y k1 k2=>aT k1)
    rw [aT hbt.symm];exact ht
  | fr lo hi =>
    obtain ⟨z,bs',rfl,h1,h2,h3⟩:=hbo
    have e1:bs'=[]:=h3
    subst e1
    have e2:ts=[]:=List.length_eq_zero_iff.mp hts
    subst e2
    simp! only [Pt.toU,h7,gZ,g6,g9,hZ,hC,hJ,iK,h9,jZ,fP,bP,bY,oE,oJ,b8,cH,o7,cF,hName,iR,mN,oW,dE]
    refine ⟨rW hb,Js hb ?_⟩
    refine aN (q (.num z) _ trivial (by simp [Tr.dep,Pt.dep]) ?_ rfl aS ?_ fun y k1 k2=>aT k1)
    · simp only [gB];rw [decide_eq_true h1,decide_eq_true h2];rfl
    · rw [aT hbt.symm];exact ht
  | turn a =>
    have hda:a.dep<=n:=by simp only [Pt.dep] at hd;omega
    dsimp! only [Pt.toU,h7,gZ,g6,g9,hZ,hC,hJ,wJ]
    intro p0 hp0
    have nb:b≠p0:=fun z=>by subst z;rw [hp0] at hb;cases hb
    have nt:t≠p0:=fun z=>by subst z;rw [hp0] at ht;cases ht
    refine gE (S:=⟨none,[a.toU]⟩) (M1:=mup M p0 (.lst [.str (Str.ofString "turn")])) (fun R r=>by first | exact r | simpa using r)
      (fun i τ Mi=>∃ (c:Option U),τ=[some (Pt.turn a).toU,some (.ref b),some (.ref t),some (.ref p0),c]/\(∀ x,x≠p0->x≠b->x≠t->Mi x=M x) /\
        ((i=0/\Mi=mup M p0 (.lst [.str (Str.ofString "turn")]))\/(∃ r:Tr,r.ok/\r.dep<=a.dep + 20/\gB a r=true/\bZ a r=bs/\Mi p0=some (.lst [.str (Str.ofString "turn"),r.toU])/\Mi b=some (.lst rb)/\Mi t=some (.lst rt)/\i=1)))
      ⟨none,rfl,fun x h1 _ _=>aT h1,.inl ⟨rfl,rfl⟩⟩ nk ?_ ?_
    · rintro i x τ Mi e ⟨c,rfl,hM,hh⟩
      match i,e with
      | 0,e =>
        cases e
        rcases hh with ⟨_,rfl⟩ | ⟨_,_,_,_,_,_,_,_,z⟩
        · dsimp! only [true_and]
          refine ⟨dY,a,b,t,bs,rb,rt,ts,rfl,hda,hbt,by rw [aT nb];exact hb,by rw [aT nt];exact ht,hbo,hts,htk,fun r M' r1 r2 r3 r4 m1 m2 m3=>?_⟩
          have m4:M' p0=some (.lst [.str (Str.ofString "turn")]):=by rw [m3 p0 nb.symm nt.symm,aS]
          dsimp! only [m4]
          refine ⟨by decide,_,rfl,fun x h1 h2 h3=>by rw [aT h1,m3 x h2 h3,aT h1],.inr ⟨r,r1,r2,r3,r4,by first | rfl | exact aS,by rw [aT nb];exact m1,by first | exact ⟨by rw [aT nt];exact m2,rfl⟩ | (rw [aT nt];exact m2)⟩⟩
        · cases z
      | i + 1,e=>cases e
    · rintro τ Mi ⟨c,rfl,hM,hh⟩
      rcases hh with ⟨z,_⟩ | ⟨r,r1,r2,r3,r4,m0,m1,m2,_⟩
      · cases z
      · dsimp! only [tH m0]
        exact leave nb nt hp0 hM m1 m2 fun M' k1 k2 k3=>q (.turn r) M' r1 (by simp only [Tr.dep,Pt.dep];omega) r3 r4 k1 k2 k3
  | two o a d =>
    have hda:a.dep<=n/\d.dep<=n:=by simp only [Pt.dep] at hd;omega
    obtain ⟨b1,b2,rfl,ho1,ho2⟩:=oY (l:=a.ends) (r:=d.ends) hbo
    have hts':ts.length=a.holes + d.holes:=hts
    have hsp:ts=ts.take a.holes++ts.drop a.holes:=(List.take_append_drop _ _).symm
    have l1:(ts.take a.holes).length=a.holes:=by rw [List.length_take];omega
    have l2:(ts.drop a.holes).length=d.holes:=by rw [List.length_drop];omega
    have k1:∀ x∈ts.take a.holes,x.ok/\x.dep<=20:=fun x hx=>htk x (List.mem_of_mem_take hx)
    have k2:∀ x∈ts.drop a.holes,x.ok/\x.dep<=20:=fun x hx=>htk x (List.mem_of_mem_drop hx)
    rw [hsp,List.map_append,List.append_assoc] at ht
    rw [List.append_assoc] at hb
    dsimp! only [Pt.toU,h7,gZ,g6,g9,hZ,hC,hJ,wJ]
    intro p0 hp0
    have nb:b≠p0:=fun z=>by subst z;rw [hp0] at hb;cases hb
    have nt:t≠p0:=fun z=>by subst z;rw [hp0] at ht;cases ht
    refine gE (S:=⟨none,[a.toU,d.toU]⟩) (M1:=mup M p0 (.lst [.str o.word])) (fun R r=>by first | exact r | simpa using r)
      (fun i τ Mi=>∃ (c:Option U),τ=[some (Pt.two o a d).toU,some (.ref b),some (.ref t),some (.ref p0),c]/\(∀ x,x≠p0->x≠b->x≠t->Mi x=M x) /\
        ((i=0/\Mi=mup M p0 (.lst [.str o.word])) \/
         (i=1/\∃ r:Tr,r.ok/\r.dep<=a.dep + 20/\gB a r=true/\bZ a r=b1/\Mi p0=some (.lst [.str o.word,r.toU])/\Mi b=some (.lst (b2++rb))/\Mi t=some (.lst ((ts.drop a.holes).map Tr.toU++rt))) \/
         (i=2/\∃ r r':Tr,(r.ok/\r.dep<=a.dep + 20/\gB a r=true/\bZ a r=b1)/\(r'.ok/\r'.dep<=d.dep + 20/\gB d r'=true/\bZ d r'=b2)/\Mi p0=some (.lst [.str o.word,r.toU,r'.toU])/\Mi b=some (.lst rb)/\Mi t=some (.lst rt))))
      ⟨none,rfl,fun x h1 _ _=>aT h1,.inl ⟨rfl,rfl⟩⟩ nk ?_ ?_
    · rintro i x τ Mi e ⟨c,rfl,hM,hh⟩
      match i,e with
      | 0,e =>
        cases e
        rcases hh with ⟨_,rfl⟩ | ⟨z,_⟩ | ⟨z,_⟩
        · dsimp! only [true_and]
          refine ⟨dY,a,b,t,b1,b2++rb,(ts.drop a.holes).map Tr.toU++rt,ts.take a.holes,rfl,hda.1,hbt,by rw [aT nb];exact hb,by rw [aT nt];exact ht,ho1,l1,k1,fun r M' r1 r2 r3 r4 m1 m2 m3=>?_⟩
          have m4:M' p0=some (.lst [.str o.word]):=by rw [m3 p0 nb.symm nt.symm,aS]
          dsimp! only [m4]
          refine ⟨by decide,_,rfl,fun x h1 h2 h3=>by rw [aT h1,m3 x h2 h3,aT h1],?_⟩
          refine .inr (.inl ?_)
          first
            | exact ⟨rfl,r,r1,r2,r3,r4,by first | rfl | exact aS,by rw [aT nb];exact m1,by rw [aT nt];exact m2⟩
            | exact ⟨r,r1,r2,r3,r4,by first | rfl | exact aS,by rw [aT nb];exact m1,by rw [aT nt];exact m2⟩
        · omega
        · omega
      | 1,e =>
        cases e
        rcases hh with ⟨z,_⟩ | ⟨_,r,r1,r2,r3,r4,w0,w1,w2⟩ | ⟨z,_⟩
        · omega
        · dsimp! only [true_and]
          refine ⟨rW w0,d,b,t,b2,rb,rt,ts.drop a.holes,rfl,hda.2,hbt,w1,w2,ho2,l2,k2,fun r' M' r1' r2' r3' r4' m1 m2 m3=>?_⟩
          have m4:M' p0=some (.lst [.str o.word,r.toU]):=by rw [m3 p0 nb.symm nt.symm,w0]
          dsimp! only [m4]
          refine ⟨by decide,_,rfl,fun x h1 h2 h3=>by rw [aT h1,m3 x h2 h3,hM x h1 h2 h3],?_⟩
          refine .inr (.inr ?_)
          first
            | exact ⟨rfl,r,r',⟨r1,r2,r3,r4⟩,⟨r1',r2',r3',r4'⟩,by first | rfl | exact aS,by rw [aT nb];exact m1,by rw [aT nt];exact m2⟩
            | exact ⟨r,r',⟨r1,r2,r3,r4⟩,⟨r1',r2',r3',r4'⟩,by first | rfl | exact aS,by rw [aT nb];exact m1,by rw [aT nt];exact m2⟩
        · omega
      | i + 2,e=>cases e
    · rintro τ Mi ⟨c,rfl,hM,hh⟩
      rcases hh with ⟨z,_⟩ | ⟨z,_⟩ | ⟨_,r,r',⟨r1,r2,r3,r4⟩,⟨s1,s2,s3,s4⟩,w0,w1,w2⟩
      · cases z
      · cases z
      · dsimp! only [tH w0]
        refine leave nb nt hp0 hM w1 w2 fun M' k1 k2 k3=>q (.two o r r') M' ⟨r1,s1⟩ (by simp only [Tr.dep,Pt.dep];omega) ?_ ?_ k1 k2 k3
        · simp only [gB,r3,s3];simp
        · simp only [bZ,r4,s4]
theorem BF (F:cL K "_law_ends" "_law_ends" jL f fd) (hm:mg "_law_ends"=some (.ref f)) (bW:mg "enumerate"=none):∀ n,Callee P w K mg base (n + 1) "_law_ends" (uE n) []
 | 0=>by
  have no:∀ us M Q,¬ uE 0 us M Q:=fun us M Q h=>by
   obtain ⟨p,t,_,h,_⟩:=h
   have:=pI p
   omega
  refine ⟨f,fd,["pattern","place"],[],[],⟨fun vs H Q E h=>?_,fun A outer s H args us vs Q E _ _ _ _ h=>?_⟩,hm,F.kp,F.binds (oP fun _ _ _ _ _ _ _ _=>rfl),.nil,fun H M=>.nil⟩
  ·obtain ⟨us,M,Q',_,_,h,_⟩:=h;exact absurd h (no us M Q')
  ·obtain ⟨us,M,Q',_,_,h,_⟩:=h;exact absurd h (no us M Q')
 | n + 1=>LZ F hm bW (BF F hm bW n)
theorem Cn (F:cL K "_law_laid" "_law_laid" jK f fd) (hm:mg "_law_laid"=some (.ref f)) (bA:mg "tuple"=none):∀ n,Callee P w K mg base (n + 1) "_law_laid" (uY n) []
 | 0=>by
  have no:∀ us M Q,¬ uY 0 us M Q:=fun us M Q h=>by
   obtain ⟨p,_,_,_,_,_,_,_,h,_⟩:=h
   have:=pI p
   omega
  refine ⟨f,fd,["pattern","borne","trees"],[],[],⟨fun vs H Q E h=>?_,fun A outer s H args us vs Q E _ _ _ _ h=>?_⟩,hm,F.kp,F.binds (Ah fun _ _ _ _ _ _ _ _ _=>rfl),.nil,fun H M=>.nil⟩
  ·obtain ⟨us,M,Q',_,_,h,_⟩:=h;exact absurd h (no us M Q')
  ·obtain ⟨us,M,Q',_,_,h,_⟩:=h;exact absurd h (no us M Q')
 | n + 1=>Nd F hm bA (Cn F hm bA n)
theorem Mp (l:List Int) (a b:Nat) (h:a<=b) (hb:b<=l.length):∃ r:List Int,j7 (l.map U.int) (some (a:Int)) (some (b:Int))=r.map U.int/\r.length=b - a:=by
 refine ⟨(l.drop a).take (b - a),?_,by rw [List.length_take,List.length_drop];omega⟩
 unfold j7
 rw [List.length_map]
 have e1:HT.bM l.length 0 (some (a:Int))=a:=by
  simp only [HT.bM]
  rw [if_neg (by omega)]
  have:((a:Int)).toNat=a:=by omega
  rw [this];omega
 have e2:HT.bM l.length l.length (some (b:Int))=b:=by
  simp only [HT.bM]
  rw [if_neg (by omega)]
  have:((b:Int)).toNat=b:=by omega
  rw [this];omega
 rw [e1,e2,List.map_take,List.map_drop]
theorem xV {neg:Bool} {i j:Bool} {M:aF} {Q:UK}:kD neg (.bl i) (.bl j) M Q=Q (.bl (if neg then !decide (i=j) else decide (i=j))) M:=rfl
theorem oX:∀ (p:Pt) (pl:List Nat),p.ok->∀ e∈cV p pl,e.2.leafy=true/\e.2.ok
 | .turn a,pl,h,e,he=>oX a (pl++[0]) h e he
 | .two _ a b,pl,h,e,he=>by
  simp only [cV] at he
  rcases List.mem_append.mp he with he | he
  ·exact oX a _ h.1 e he
  ·exact oX b _ h.2 e he
 | .hole _,pl,h,e,he=>by cases List.mem_singleton.mp he;exact ⟨rfl,h⟩
 | .any,pl,h,e,he=>by cases List.mem_singleton.mp he;exact ⟨rfl,h⟩
 | .fr _ _,pl,h,e,he=>by cases List.mem_singleton.mp he;exact ⟨rfl,h⟩
def fJ:eL:=fun x y M Q=>match x,y with
 | .bl i,.bl j=>Q (.bl (decide (i=j))) M
 | _,_=>False
def Pt.parts:Pt->List Pt
 | .turn a=>[a]
 | .two _ a b=>[a,b]
 | _=>[]
def cI:Pt->List Nat->List (List Nat × Pt)
 | .turn a,pl=>(pl,.turn a) :: cI a (pl++[0])
 | .two o a b,pl=>(pl,.two o a b) :: (cI a (pl++[0])++cI b (pl++[1]))
 | p,pl=>[(pl,p)]
def Pt.places:Pt->List (List Nat)
 | .turn a=>[] :: a.places.map (0 :: ·)
 | .two _ a b=>[] :: (a.places.map (0 :: ·)++b.places.map (1 :: ·))
 | _=>[[]]
theorem lO:∀ (p:Pt) (pl:List Nat),(cI p pl).map (·.1)=p.places.map (pl++·)
 | .turn a,pl=>by simp [cI,Pt.places,lO a]
 | .two o a b,pl=>by
  simp only [cI,Pt.places,List.map_cons,List.map_append,lO a,lO b,List.map_map,List.append_nil]
  simp [Function.comp_def]
 | .hole _,pl=>by simp [cI,Pt.places]
 | .any,pl=>by simp [cI,Pt.places]
 | .fr _ _,pl=>by simp [cI,Pt.places]
theorem qI:∀ (p:Pt) (pl:List Nat),(cI p pl).filter (fun e=>e.2.leafy)=cV p pl
 | .turn a,pl=>by rw [cI,List.filter_cons_of_neg (by simp [Pt.leafy]),qI a];rfl
 | .two o a b,pl=>by rw [cI,List.filter_cons_of_neg (by simp [Pt.leafy]),List.filter_append,qI a,qI b];rfl
 | .hole _,pl=>rfl
 | .any,pl=>rfl
 | .fr _ _,pl=>rfl
theorem places_len:∀ p:Pt,p.places.length < 2 ^ p.dep
 | .turn a=>by have:=places_len a;simp only [Pt.places,Pt.dep,List.length_cons,List.length_map,Nat.pow_succ];omega
 | .two _ a b=>by
  have h1:=places_len a
  have h2:=places_len b
  have h3:2 ^ a.dep<=2 ^ max a.dep b.dep:=Nat.pow_le_pow_right (by decide) (Nat.le_max_left _ _)
  have h4:2 ^ b.dep<=2 ^ max a.dep b.dep:=Nat.pow_le_pow_right (by decide) (Nat.le_max_right _ _)
  simp only [Pt.places,Pt.dep,Nat.pow_succ,List.length_cons,List.length_append,List.length_map];omega
 | .hole _=>by simp [Pt.places,Pt.dep]
 | .any=>by simp [Pt.places,Pt.dep]
 | .fr _ _=>by simp [Pt.places,Pt.dep]
theorem nY:∀ (p:Pt) (pl:List Nat),pl∈p.places->pl.length < p.dep
 | .turn a,pl,h=>by
  simp only [Pt.places,List.mem_cons,List.mem_map] at h
  rcases h with rfl | ⟨q,hq,rfl⟩
  ·simp [Pt.dep]
  ·have:=nY a q hq;simp only [Pt.dep,List.length_cons];omega
 | .two o a b,pl,h=>by
  simp only [Pt.places,List.mem_cons,List.mem_append,List.mem_map] at h
  rcases h with rfl | ⟨q,hq,rfl⟩ | ⟨q,hq,rfl⟩
  ·simp [Pt.dep]
  ·have:=nY a q hq;simp only [Pt.dep,List.length_cons];omega
  ·have:=nY b q hq;simp only [Pt.dep,List.length_cons];omega
 | .hole _,pl,h=>by simp [Pt.places] at h;subst h;simp [Pt.dep]
 | .any,pl,h=>by simp [Pt.places] at h;subst h;simp [Pt.dep]
 | .fr _ _,pl,h=>by simp [Pt.places] at h;subst h;simp [Pt.dep]
def nB (n:Nat):bF:=fun us M Q=>∃ p:Pt,us=[p.toU]/\p.dep<=n/\n<=10/\Q (.lst (p.places.map cG)) M
theorem Rg:(bV cE (Str.ofString "at")).isSome=false:=by decide +kernel
theorem F6:(bV cE (Str.ofString "any")).isSome=false:=by decide +kernel
theorem B0:(bV cE (Str.ofString "from")).isSome=false:=by decide +kernel
theorem Hk (p:Pt):∃ z r,p.toU=.tup (.str z :: r)/\(bV cE z).isSome=!p.leafy/\(p.leafy=false->r=p.parts.map Pt.toU)/\r.length<=3:=by
 cases p with
 | hole c=>exact ⟨_,_,rfl,Rg,(fun h=>by cases h),by simp⟩
 | any=>exact ⟨_,_,rfl,F6,(fun h=>by cases h),by simp⟩
 | fr l h=>exact ⟨_,_,rfl,B0,(fun h=>by cases h),by simp⟩
 | turn a=>exact ⟨_,_,rfl,u3,fun _=>rfl,by simp⟩
 | two o a b=>exact ⟨_,_,rfl,t8 o,fun _=>rfl,by simp⟩
theorem E8 {p:Pt} (h:p.leafy=true):p.parts=[]:=by cases p <;> first | rfl | cases h
def fN:Nat->List Pt->List (List Nat)
 | _,[]=>[]
 | k,a :: r=>a.places.map (k :: ·)++fN (k + 1) r
theorem places_eq (p:Pt):p.places=[] :: fN 0 p.parts:=by cases p <;> simp [Pt.places,Pt.parts,fN]
theorem Ec (l:List Pt) (a:Pt):∀ k,fN k (l++[a])=fN k l++a.places.map ((k + l.length) :: ·):=by
 induction l with
 | nil=>intro k;simp [fN]
 | cons b l ih=>intro k;simp only [List.cons_append,fN,ih,List.length_cons,List.append_assoc];rw [show k + 1 + l.length=k + (l.length + 1) by omega]
theorem IW (p:Pt) (i:Nat):(fN 0 (p.parts.take i)).length + 1<=p.places.length:=by
 have:∀ (l:List Pt) (k j:Nat),(fN k (l.take j)).length<=(fN k l).length:=by
  intro l
  induction l with
  | nil=>intro k j;simp [fN]
  | cons a l ih =>
   intro k j
   cases j with
   | zero=>simp [fN]
   | succ j=>simp only [List.take_succ_cons,fN,List.length_append];have:=ih (k + 1) j;omega
 have h1:=this p.parts 0 i
 rw [places_eq p,List.length_cons]
 omega
theorem JU {p a:Pt} {i:Nat} (h:p.parts[i]?=some a):a.dep < p.dep:=by
 have hm:=List.mem_of_getElem? h
 cases p with
 | turn b =>
  have:a=b:=by simpa [Pt.parts] using hm
  subst this;simp only [Pt.dep];omega
 | two o b c =>
  have:a=b\/a=c:=by simpa [Pt.parts] using hm
  simp only [Pt.dep]
  rcases this with rfl | rfl <;> omega
 | _=>cases hm
theorem Bi {n:Nat} (F:cL K "places_of" "places_of" iN f fd) (hm:mg "places_of"=some (.ref f)) (bW:mg "enumerate"=none)
  (eI:Callee P w K mg base 1 "parts_of" jC []) (lI:Callee P w K mg base (n + 1) "places_of" (nB n) []):Callee P w K mg base (n + 2) "places_of" (nB (n + 1)) []:=by
 refine bN F hm mM (oA fun _ _ _ _ _ _ _=>rfl) (aE (aZ 1 mM.nd (cU (own:=true) (aA (bC aB) aB)))
 (aE (i7 (t7 bW (aA (aP eI (aA (uv 0) aB)) aB)) (iX (n:=2) (bH (aY (k:=1000) 2 mM.nd) (bH (aY (k:=1000) 3 mM.nd) gY)))
 (aH (gX (uW (uv 1) (aA (iF false ["place","number"] 1 [2] (dO (aP lI (aA (uv 3) aB))) (aY (k:=1) 0 (by dsimp only [bO];decide +kernel)) gH (dF (own:=false) (bC (aA (uv 1) aB)) (uv 0))) aB)))))
 (aH (aQ (uv 1))))) ?_
 rintro us M Q ⟨t,rfl,hd,hz,q⟩
 refine ⟨rfl,?_⟩
 have hbig:∀ a:Pt,a.dep<=10->a.places.length<=1024:=fun a ha=>by
  have h1:=places_len a
  have h2:2 ^ a.dep<=2 ^ 10:=Nat.pow_le_pow_right (by decide) ha
  omega
 dsimp! only [bJ,fJ]
 refine fun p hp=>?_
 refine gE (S:=⟨none,numbered (t.parts.map Pt.toU)⟩) (M1:=mup M p (.lst [.tup []])) (fun R r=>?_)
  (fun i τ Mi=>∃ b c,τ=[some t.toU,some (.ref p),b,c]/\Mi=mup M p (.lst (([] :: fN 0 (t.parts.take i)).map cG))) ⟨none,none,rfl,rfl⟩ nk ?_ ?_
 ·obtain ⟨z,rr,e,e1,e2,e3⟩:=Hk t
  refine ⟨z,rr,!t.leafy,by rw [<- e];rfl,e1,by omega,?_⟩
  cases hl:t.leafy with
  | true=>simp only [hl,Bool.not_true,Bool.false_eq_true,if_false];rw [E8 hl] at r;exact r
  | false=>simp only [hl,Bool.not_false,if_true];rw [e2 hl];exact r
 ·rintro i x τ Mi e ⟨b,c,rfl,rfl⟩
  obtain ⟨u,hu,rfl⟩:=pK e
  rw [List.getElem?_map] at hu
  cases hp':t.parts[i]? with
  | none=>rw [hp'] at hu;cases hu
  | some a =>
   rw [hp'] at hu
   cases hu
   have ha:=JU hp'
   have hin:fN 0 (t.parts.take (i + 1))=fN 0 (t.parts.take i)++a.places.map (i :: ·):=by
    have hlt:=(List.getElem?_eq_some_iff.mp hp').1
    rw [List.take_add_one,hp']
    have:=Ec (t.parts.take i) a 0
    rw [List.length_take,Nat.min_eq_left (Nat.le_of_lt hlt),Nat.zero_add] at this
    exact this
   have hb1:=hbig a (by omega)
   dsimp! only [bJ,fJ]
   refine ⟨dY,cO (S:=⟨none,a.places.map cG⟩) (M1:=mup M p (MO.lst (cG [] :: List.map cG (fN 0 (List.take i t.parts))))) (a.places.map fun pl=>cG (i :: pl)) (fun R r'=>⟨a,rfl,by omega,by omega,r'⟩) (by simp) ?_ (fun a e=>by cases e) ?_ ?_⟩
   ·show (a.places.map cG).length<=sizeLine
    rw [List.length_map]
    exact small (by omega)
   ·intro j x y hx hy M' _ R r'
    have hx':(a.places.map cG)[j]?=some x:=hx
    rw [List.getElem?_map] at hx' hy
    cases hpl:a.places[j]? with
    | none=>rw [hpl] at hx';cases hx'
    | some pl =>
     rw [hpl] at hx' hy
     cases hx'
     cases hy
     have h1:=nY a pl (List.mem_of_getElem? hpl)
     dsimp! only [cG,bJ,fJ]
     refine ⟨small ?_,?_⟩
     ·simp only [List.length_cons,List.length_nil,List.length_map];omega
     ·simpa [cG] using r'
   ·have h1:=IW t i
    have h2:=hbig t (by omega)
    dsimp! only [bJ,fJ]
    refine ⟨small ?_,_,_,rfl,?_⟩
    ·simp only [List.length_map];omega
    ·rw [hin,List.map_append,List.map_map];rfl
 ·rintro τ Mi ⟨b,c,rfl,rfl⟩
  rw [pT,List.length_map,List.take_length,<- places_eq]
  dsimp! only [bJ,fJ]
  exact ⟨_,M,(Sub.refl M).mup hp,.inr ⟨p,_,rfl,aS,hp,rfl⟩,q⟩
theorem xK (F:cL K "places_of" "places_of" iN f fd) (hm:mg "places_of"=some (.ref f)) (bW:mg "enumerate"=none) (eI:Callee P w K mg base 1 "parts_of" jC []):∀ n,Callee P w K mg base (n + 1) "places_of" (nB n) []
 | 0=>by
  have no:∀ us M Q,¬ nB 0 us M Q:=fun us M Q h=>by
   obtain ⟨p,_,h,_⟩:=h
   have:=pI p
   omega
  refine ⟨f,fd,["shape"],[],[],⟨fun vs H Q E h=>?_,fun A outer s H args us vs Q E _ _ _ _ h=>?_⟩,hm,F.kp,F.binds (oA fun _ _ _ _ _ _ _=>rfl),.nil,fun H M=>.nil⟩
  ·obtain ⟨us,M,Q',_,_,h,_⟩:=h;exact absurd h (no us M Q')
  ·obtain ⟨us,M,Q',_,_,h,_⟩:=h;exact absurd h (no us M Q')
 | n + 1=>Bi F hm bW eI (xK F hm bW eI n)
def jH:U->Nat->Option U
 | .tup (.str z :: r),k=>if (bV cE z).isSome then (if r.length<=1000 then r[k]? else none) else none
 | _,_=>none
def oO:U->List Nat->Option U
 | u,[]=>some u
 | u,k :: pl=>(jH u k).bind fun v=>oO v pl
theorem IP {h w:U} {k:Nat} (e:jH h k=some w):∃ z r,h=.tup (.str z :: r)/\(bV cE z).isSome=true/\r.length<=1000/\r[k]?=some w:=by
 match h,e with
 | .tup (.str z :: r),e =>
  simp only [jH] at e
  split at e
  ·rename_i h1
   split at e
   ·rename_i h2
    exact ⟨z,r,rfl,h1,h2,e⟩
   ·cases e
  ·cases e
 | .tup [],e=>cases e
 | .tup (.non :: _),e=>cases e
 | .tup (.bl _ :: _),e=>cases e
 | .tup (.int _ :: _),e=>cases e
 | .tup (.ty _ :: _),e=>cases e
 | .tup (.ref _ :: _),e=>cases e
 | .tup (.tup _ :: _),e=>cases e
 | .tup (.lst _ :: _),e=>cases e
 | .non,e=>cases e
 | .bl _,e=>cases e
 | .int _,e=>cases e
 | .str _,e=>cases e
 | .ty _,e=>cases e
 | .ref _,e=>cases e
 | .lst _,e=>cases e
theorem Ck:∀ (l:List Nat) (u:U) (k:Nat),oO u (l++[k])=(oO u l).bind fun v=>jH v k
 | [],u,k=>by simp only [List.nil_append,oO,Option.bind_some];cases jH u k <;> rfl
 | j :: l,u,k=>by
  simp only [List.cons_append,oO]
  cases jH u j with
  | none=>rfl
  | some v=>exact Ck l v k
theorem BH:∀ (l r:List Nat) (u:U),oO u l=none->oO u (l++r)=none
 | [],r,u,z=>by cases z
 | j :: l,r,u,z=>by
  simp only [List.cons_append,oO] at z ⊢
  cases hj:jH u j with
  | none=>rfl
  | some v=>rw [hj] at z;exact BH l r v z
def Eg:bF:=fun us M Q=>∃ (u v:U) (pl:List Nat),us=[u,cG pl]/\oO u pl=some v/\Q v M
theorem Cp (F:cL K "shape_at" "shape_at" kR f fd) (hm:mg "shape_at"=some (.ref f)) (eI:Callee P w K mg base 1 "parts_of" jC []):Callee P w K mg base 2 "shape_at" Eg []:=by
 refine bN F hm nT (oP fun _ _ _ _ _ _ _ _=>rfl) (aE (aZ 2 nT.nd (uv 0))
 (aE (i7 (dO (uv 1)) (aY (k:=1000) 3 nT.nd)
 (aH (aZ 2 nT.nd (aL (aP eI (aA (uv 2) aB)) (uv 3)))))
 (aH (aQ (uv 2))))) ?_
 rintro us M Q ⟨u,v,pl,rfl,hpl,q⟩
 refine ⟨rfl,?_⟩
 dsimp! only [bJ,fJ]
 refine gE (S:=⟨none,pl.map fun (n:Nat)=>U.int (n:Int)⟩) (M1:=M) (fun R r=>r)
  (fun i τ Mi=>∃ (h:U) (c:Option U),τ=[some u,some (cG pl),some h,c]/\Mi=M/\oO u (pl.take i)=some h) ⟨u,none,rfl,rfl,rfl⟩ nk ?_ ?_
 ·rintro i x τ Mi e ⟨h,c,rfl,rfl,hh⟩
  have e':(pl.map fun (n:Nat)=>U.int (n:Int))[i]?=some x:=e
  rw [List.getElem?_map] at e'
  cases hk:pl[i]? with
  | none=>rw [hk] at e';cases e'
  | some k =>
   rw [hk] at e'
   cases e'
   have hnx:oO u (pl.take (i + 1))=jH h k:=by
    rw [List.take_add_one,hk]
    show oO u (pl.take i++[k])=_
    rw [Ck,hh];rfl
   cases hs:jH h k with
   | none =>
    rw [hs] at hnx
    have:=BH (pl.take (i + 1)) (pl.drop (i + 1)) u hnx
    rw [List.take_append_drop,hpl] at this
    cases this
   | some w' =>
    rw [hs] at hnx
    obtain ⟨z,r,rfl,hz,hr,hs'⟩:=IP hs
    dsimp! only [bJ,fJ]
    refine ⟨z,r,true,rfl,hz,hr,?_⟩
    dsimp! only [bJ,fJ]
    exact ⟨w',kN hs',w',_,rfl,hnx⟩
 ·rintro τ Mi ⟨h,c,rfl,rfl,hh⟩
  simp only [List.length_map,List.take_length] at hh
  rw [hpl] at hh
  cases hh
  dsimp! only [bJ,fJ]
  exact aN q
theorem My (a:U):jH (.tup [.str (Str.ofString "turn"),a]) 0=some a:=by
 simp only [jH];rw [if_pos u3,if_pos (by simp)];rfl
theorem Ng (o:Op) (a b:U):jH (.tup [.str o.word,a,b]) 0=some a:=by
 simp only [jH];rw [if_pos (t8 o),if_pos (by simp)];rfl
theorem Nt (o:Op) (a b:U):jH (.tup [.str o.word,a,b]) 1=some b:=by
 simp only [jH];rw [if_pos (t8 o),if_pos (by simp)];rfl
theorem rV:∀ (p:Pt) (pre:List Nat) (e:List Nat × Pt),e∈cI p pre->∃ s,e.1=pre++s/\oO p.toU s=some e.2.toU
 | .turn a,pre,e,h=>by
  simp only [cI] at h
  rcases List.mem_cons.mp h with rfl | h
  ·exact ⟨[],by simp,rfl⟩
  ·obtain ⟨s,h1,h2⟩:=rV a _ e h
   refine ⟨0 :: s,by rw [h1];simp,?_⟩
   simp only [oO,Pt.toU,My,Option.bind_some,h2]
 | .two o a b,pre,e,h=>by
  simp only [cI] at h
  rcases List.mem_cons.mp h with rfl | h
  ·exact ⟨[],by simp,rfl⟩
  ·rcases List.mem_append.mp h with h | h
   ·obtain ⟨s,h1,h2⟩:=rV a _ e h
    refine ⟨0 :: s,by rw [h1];simp,?_⟩
    simp only [oO,Pt.toU,Ng,Option.bind_some,h2]
   ·obtain ⟨s,h1,h2⟩:=rV b _ e h
    refine ⟨1 :: s,by rw [h1];simp,?_⟩
    simp only [oO,Pt.toU,Nt,Option.bind_some,h2]
 | .hole _,pre,e,h=>by cases List.mem_singleton.mp h;exact ⟨[],by simp,rfl⟩
 | .any,pre,e,h=>by cases List.mem_singleton.mp h;exact ⟨[],by simp,rfl⟩
 | .fr _ _,pre,e,h=>by cases List.mem_singleton.mp h;exact ⟨[],by simp,rfl⟩
def kB (e:List Nat × Pt):Bool:=decide (e.2.holes=0)
def DC (p:Pt):List (List Nat × Pt):=(cV p []).filter kB
def fU:U->Option U
 | .tup [a,.tup (.str z :: r)]=>if (!decide (z=Str.ofString "at")) && !(bV cE z).isSome then some (.tup [a,.tup (.str z :: r)]) else none
 | _=>none
theorem Ho (e:List Nat × Pt):fU (bT e)=if e.2.leafy && kB e then some (bT e) else none:=by
 obtain ⟨pl,q⟩:=e
 have e1:decide (Str.ofString "at"=Str.ofString "at")=true:=by simp
 cases q with
 | hole c=>simp only [bT,Pt.toU,fU,e1,Pt.leafy,kB,Pt.holes];rfl
 | any=>simp only [bT,Pt.toU,fU,h7,gZ,g6,g9,hZ,hC,hJ,F6,Pt.leafy,kB,Pt.holes];rfl
 | fr l h=>simp only [bT,Pt.toU,fU,h7,gZ,g6,g9,hZ,hC,hJ,B0,Pt.leafy,kB,Pt.holes];rfl
 | turn a=>simp only [bT,Pt.toU,fU,h7,gZ,g6,g9,hZ,hC,hJ,u3,Pt.leafy];rfl
 | two o a b=>simp only [bT,Pt.toU,fU,h7,gZ,g6,g9,hZ,hC,hJ,t8,Pt.leafy];rfl
theorem Pe (l:List (List Nat × Pt)):(l.map bT).filterMap fU=((l.filter (fun e=>e.2.leafy)).filter kB).map bT:=by
 induction l with
 | nil=>rfl
 | cons e l ih =>
  simp only [List.map_cons,List.filterMap_cons,Ho,ih]
  cases h1:e.2.leafy with
  | false=>simp [List.filter_cons,h1]
  | true =>
   cases h2:kB e with
   | false=>simp [List.filter_cons,h1,h2]
   | true=>simp [List.filter_cons,h1,h2]
def Cf:bF:=fun us M Q=>∃ p:Pt,us=[p.toU]/\p.dep<=6/\Q (.lst ((DC p).map bT)) M
def hF (e:List Nat × Pt):Option (List Nat × Str):=match e.2 with
 | .hole c=>some (e.1,c)
 | _=>none
def tN (e:List Nat × Str):U:=.tup [cG e.1,.str e.2]
def OJ (p:Pt):List (List Nat × Str):=(cI p []).filterMap hF
def hU:U->Option U
 | .tup [a,.tup (.str z :: r)]=>if decide (z=Str.ofString "at") then (r.head?).map fun c=>.tup [a,c] else none
 | _=>none
theorem Hr (e:List Nat × Pt):hU (bT e)=(hF e).map tN:=by
 obtain ⟨pl,q⟩:=e
 have e1:decide (Str.ofString "at"=Str.ofString "at")=true:=by simp
 cases q with
 | hole c=>simp only [bT,Pt.toU,hU,e1,hF,tN];rfl
 | any=>simp only [bT,Pt.toU,hU,h7,gZ,g6,g9,hZ,hC,hJ,hF];rfl
 | fr l h=>simp only [bT,Pt.toU,hU,h7,gZ,g6,g9,hZ,hC,hJ,hF];rfl
 | turn a=>simp only [bT,Pt.toU,hU,h7,gZ,g6,g9,hZ,hC,hJ,hF];rfl
 | two o a b=>simp only [bT,Pt.toU,hU,h7,gZ,g6,g9,hZ,hC,hJ,hF];rfl
theorem NL (l:List (List Nat × Pt)):(l.map bT).filterMap hU=(l.filterMap hF).map tN:=by
 induction l with
 | nil=>rfl
 | cons e l ih =>
  rw [List.map_cons,List.filterMap_cons,List.filterMap_cons,Hr,ih]
  cases hF e <;> rfl
def yL:bF:=fun us M Q=>∃ p:Pt,us=[p.toU]/\p.dep<=6/\Q (.lst ((OJ p).map tN)) M
theorem Kv (F:cL K "holes" "holes" pE f fd) (hm:mg "holes"=some (.ref f)) (lI:Callee P w K mg base 7 "places_of" (nB 6) []) (tO:Callee P w K mg base 2 "shape_at" Eg []):Callee P w K mg base 8 "holes" yL []:=by
 refine bN F hm Bn (oA fun _ _ _ _ _ _ _=>rfl) (aE (vD 1 Bn.nd false ["place","pattern"] 1 [0] (dO (aP lI (aA (uv 0) aB))) (aY (k:=1) 0 (by dsimp only [bO];decide +kernel)) gH (bC (aA (uv 0) (aA (aP tO (aA (uv 1) (aA (uv 0) aB))) aB))))
 (aH (aQ (iF false ["place","piece"] 2 [] (dO (uv 1)) (iX (n:=2) (bH (aY (k:=2) 0 (by dsimp only [bO];decide +kernel)) (bH (aY (k:=2) 1 (by dsimp only [bO];decide +kernel)) gY))) (DR (cB eB (aL (uv 1) aK) dR)) (bC (aA (uv 0) (aA (aL (uv 1) aK) aB))))))) ?_
 rintro us M Q ⟨p,rfl,hd,q⟩
 refine ⟨rfl,?_⟩
 have hsp:(cI p []).map (·.1)=p.places:=by rw [lO];simp
 have hpl:p.places.length<=64:=by
  have h1:=places_len p
  have h2:2 ^ p.dep<=2 ^ 6:=Nat.pow_le_pow_right (by decide) hd
  omega
 have hsl:(cI p []).length=p.places.length:=by rw [<- hsp,List.length_map]
 dsimp! only [bJ,fJ,bE,eD,bI]
 refine cO (S:=⟨none,p.places.map cG⟩) (M1:=M) ((cI p []).map bT) (fun R r=>⟨p,rfl,hd,by decide,r⟩) (by simp [hsl]) (small (by show (p.places.map cG).length<=_;rw [List.length_map];omega)) (fun a e=>by cases e) ?_ ?_
 ·intro j x y hx hy M' _ R r'
  have hx':(p.places.map cG)[j]?=some x:=hx
  rw [<- hsp,List.map_map,List.getElem?_map] at hx'
  rw [List.getElem?_map] at hy
  cases hj:(cI p [])[j]? with
  | none=>rw [hj] at hy;cases hy
  | some e =>
   rw [hj] at hx' hy
   cases hx'
   cases hy
   obtain ⟨s,h1,h2⟩:=rV p [] e (List.mem_of_getElem? hj)
   rw [List.nil_append] at h1
   dsimp! only [bJ,fJ,bE,eD,bI]
   refine ⟨p.toU,e.2.toU,e.1,rfl,by rw [h1];exact h2,?_⟩
   dsimp! only [bJ,fJ,bE,eD,bI]
   exact r'
 ·dsimp! only [bJ,fJ,bE,eD,bI]
  refine sY (S:=⟨none,(cI p []).map bT⟩) (M1:=M) hU (fun R r=>r) (small (by show ((cI p []).map bT).length<=_;rw [List.length_map];omega)) (fun a e=>by cases e) ?_ ?_
  ·intro x hx M' _ R r
   obtain ⟨e,he,rfl⟩:=List.mem_map.mp hx
   rw [Hr] at r
   obtain ⟨pl,pt⟩:=e
   cases pt with
   | hole c=>dsimp! only [bT,hF,tN,Pt.toU,h7,gZ,g6,g9,hZ,hC,hJ,Option.map_some,bJ,fJ,bE,eD,bI] at r ⊢;exact r
   | any=>dsimp! only [bT,hF,tN,Pt.toU,h7,gZ,g6,g9,hZ,hC,hJ,Option.map_none,bJ,fJ,bE,eD,bI] at r ⊢;exact r
   | fr l h=>dsimp! only [bT,hF,tN,Pt.toU,h7,gZ,g6,g9,hZ,hC,hJ,Option.map_none,bJ,fJ,bE,eD,bI] at r ⊢;exact r
   | turn a=>dsimp! only [bT,hF,tN,Pt.toU,h7,gZ,g6,g9,hZ,hC,hJ,Option.map_none,bJ,fJ,bE,eD,bI] at r ⊢;exact r
   | two o a b=>dsimp! only [bT,hF,tN,Pt.toU,h7,gZ,g6,g9,hZ,hC,hJ,Option.map_none,bJ,fJ,bE,eD,bI] at r ⊢;exact r
  ·rw [show (Src.mk none ((cI p []).map bT)).xs=(cI p []).map bT from rfl,NL]
   simp only [j2]
   exact aN q
def BN:Pt->Tr->List (Tr × Str)
 | .hole c,t=>[(t,c)]
 | .turn p,.turn a=>BN p a
 | .two _ p q,.two _ a b=>BN p a++BN q b
 | _,_=>[]
structure Tl where
 name:Str
 cls:Str
 pt:Pt
 cost:Int
def Tl.toU (t:Tl):U:=.tup [.str t.name,.str t.cls,t.pt.toU,.int t.cost]
end
end K36
namespace K36
open PySem L2 U2
open Tr
def vI:Str:="abcdefghijklmnopqrstuvwxyz"
section
variable {P:Program} {w:World} {K:PySem.W.Frag} {mg:Str->Option Value} {base:Heap} {f d d2 fl:Addr} {fd:FuncData}
theorem MR {z:Str} {M:aF} {Q:UK}:kD false U.non (.str z) M Q=Q (.bl false) M:=by
 have:zI U.non (.str z)=some false:=rfl
 unfold kD;rw [this];rfl
def isLetter (c:Nat):Bool:=!(Builtin.Str.occurrences vI ⟨#[c]⟩ 0 vI.length 1).isEmpty
def isName:U->Bool
 | .str z=>decide (1<=z.length) && decide (z.length<=8) && z.cps.toList.all isLetter
 | _=>false
def GH:U->Prop
 | .str z=>z.length<=sizeLine
 | .ref _=>False
 | .ty _=>False
 | _=>True
def zC:bF:=fun us M Q=>∃ x,us=[x]/\GH x/\Q (.bl (isName x)) M
theorem HR {z:Str} {x:U} (h:x∈chars z):∃ c,x=.str ⟨#[c]⟩:=by
 obtain ⟨c,_,e⟩:=List.mem_map.mp h
 exact ⟨c,e.symm⟩
theorem Hf (z:Str):(chars z).length=z.length:=by simp [chars,Str.length]
def Fj:U->Option U
 | .str y=>some (.bl (!(Builtin.Str.occurrences vI y 0 vI.length 1).isEmpty))
 | _=>none
theorem OX:∀ l:List Nat,pS ((l.map fun c=>U.str ⟨#[c]⟩).filterMap Fj)=some (l.map isLetter)
 | []=>rfl
 | c :: r=>by
  have:=OX r
  simp only [List.map_cons,List.filterMap_cons,Fj] at this ⊢
  simp only [pS,this,Option.map_some]
  rfl
local macro_rules | `(tactic| simp_all! only [$xs,*]) => `(tactic| simp only [$xs,*, Bool.false_eq_true, Bool.not_false, Bool.not_true, List.append_nil, List.cons_append, List.getElem?_cons_succ, List.getElem?_cons_zero, List.length_cons, List.length_nil, List.map_cons, List.map_nil, List.nil_append, List.replicate, List.set_cons_succ, List.set_cons_zero, Nat.add_sub_cancel, Nat.reduceAdd, Nat.reduceSub, Nat.sub_self, Option.some.injEq, and_true, xT, xH, at2, zW, rD, mQ, qO, mW, nO, mU, p7, uL, j9, xY, xX, xG, Ad, eJ, decide_false, decide_true, zI, exists_eq_left', h9, hName, jZ, iK, if_false, if_true, tK, gK, cQ, cR, cY, cS, cZ, cM, e6, fB, fQ, eW, fR, d7, fD, e7, gF, fA, fZ, dZ, gC, fY, gR, gG, gP, e8, eY, fC, fX, eX, gA, dW, fV, fS, gQ, fO, gS, eV, d8, d4, eT, dX, eU, dI, items, iS, n8, iW, pH, j2, reduceCtorEq, fG, true_and, nM, mJ, mL, qY, cF, tR, rA, mN, uC, qN, kS, mR, j6, gO, oW, iR, nS, yR, uB, kD, uI, oM, vN, oJ, fP, pL, kQ, pZ, rE, qZ, uA, b8, kH, jX, qU, qH, n4, fH, vP, rH, nV, cH, o7, nW, qD, oE, qW, lR, rB, pM, vQ, fK, rG])
theorem Gp {t1 t2:Tok} (F:cL K "is_name" "is_name" lZ f fd) (hm:mg "is_name"=some (.ref f)) (bU:mg "len"=none) (aO:mg "isinstance"=none) (kL:mg "str"=none) (o4:mg "all"=none)
  (uV:mg "LETTERS"=some (.str vI t1)) (m9:mg "LONGEST_NAME"=some (.int 8 t2)):Callee P w K mg base 1 "is_name" zC []:=by
 refine bN F hm Fx (oA fun _ _ _ _ _ _ _=>rfl) (aE (bS (i8.pt (jE (fF (dQ (cA fM aO (aA (uv 0) (aA (eK (n:="str") kL) aB))))) (iU (fF (Lb uJ uJ aK (cA iJ bU (aA (uv 0) aB)) (t6 m9))))))
 (aH (aQ mZ))
 bD)
 (aH (aQ (cA EJ o4 (aA (iF false ["sign"] 1 [] (dO (uv 0)) (aY (k:=1) 0 (by dsimp only [bO];decide +kernel)) gH (p9 Qy (uv 0) (Ot uV))) aB))))) ?_
 rintro us M Q ⟨x,rfl,ok,q⟩
 refine ⟨rfl,?_⟩
 cases x with
 | str z =>
  simp_all! only [bP,bY,gI,view]
  refine ⟨ok,?_⟩
  simp only [isName] at q
  by_cases h1:1<=(z.length:Int)
  ·rw [if_pos (by simpa using h1)]
   by_cases h8:(z.length:Int)<=8
   ·rw [if_neg (by simp [h8])]
    refine sY (S:=⟨none,chars z⟩) (M1:=M) (hw:=fun R r=>r) Fj (by rw [show (Src.mk none (chars z)).xs.length=z.length from Hf z];exact ok) (fun a e=>by cases e) (fun x hx M' _ R r=>?_) ?_
    ·obtain ⟨c,rfl⟩:=HR hx
     exact r
    ·show (match pS ((chars z).filterMap Fj) with | some bs=>iP Q (U.bl (bs.all fun b=>b)) M | none=>False)
     unfold chars
     rw [OX]
     refine aN ?_
     have e:((z.cps.toList.map isLetter).all fun b=>b)=(decide (1<=z.length) && decide (z.length<=8) && z.cps.toList.all isLetter):=by
      rw [decide_eq_true (show 1<=z.length by omega),decide_eq_true (show z.length<=8 by omega),List.all_map]
      rfl
     rw [e];exact q
   ·rw [if_pos (by simp [h8])]
    rw [decide_eq_false (show ¬ z.length<=8 by omega)] at q
    simp at q
    exact aN q
  ·rw [if_neg (by simpa using h1)]
   rw [decide_eq_false (show ¬ 1<=z.length by omega)] at q
   simp at q
   exact aN q
 | ref a=>exact ok.elim
 | ty a=>exact ok.elim
 | _=>simp_all! only [bP,bY,gI,view];exact aN q
def BW:U->Bool
 | .int i=>decide (0<=i) && decide (i<=1000000000000000000)
 | _=>false
inductive LF:U->Bool->Prop
 | non:LF .non false
 | bl (b:Bool):LF (.bl b) false
 | int (i:Int):LF (.int i) false
 | str (z:Str):LF (.str z) false
 | lst (l:List U):LF (.lst l) false
 | tnil:LF (.tup []) false
 | tn (r:List U):LF (.tup (.non :: r)) false
 | tt (xs r:List U) (h:r.length=1->∀ (z:Str) (M:aF) (Q:UK),PyData.strOk z=true->Q (.bl false) M->kD false (.tup xs) (.str z) M Q):LF (.tup (.tup xs :: r)) false
 | tl (xs r:List U) (h:r.length=1->∀ (z:Str) (M:aF) (Q:UK),PyData.strOk z=true->Q (.bl false) M->kD false (.lst xs) (.str z) M Q):LF (.tup (.lst xs :: r)) false
 | word (z:Str) (r:List U) (h:bV cE z=none\/∃ k:Nat,bV cE z=some (.int k)/\r.length≠k) (h2:r.length=1->z≠Str.ofString "num"/\z≠Str.ofString "name"):LF (.tup (.str z :: r)) false
 | num (x:U) (h:GH x):LF (.tup [.str (Str.ofString "num"),x]) (BW x)
 | name (x:U) (h:GH x):LF (.tup [.str (Str.ofString "name"),x]) (isName x)
inductive G where
 | leaf (u:U) (b:Bool) | turn (a:G) | two (o:Op) (a b:G)
namespace G
def toU:G->U
 | leaf u _=>u
 | turn a=>.tup [.str "turn",a.toU]
 | two o a b=>.tup [.str o.word,a.toU,b.toU]
def size:G->Nat
 | leaf _ _=>1
 | turn a=>a.size + 1
 | two _ a b=>a.size + b.size + 1
def dep:G->Nat
 | leaf _ _=>1
 | turn a=>a.dep + 1
 | two _ a b=>max a.dep b.dep + 1
def fit:G->Bool
 | leaf _ b=>b
 | turn a=>a.fit
 | two _ a b=>a.fit && b.fit
def wf (L:U->Bool->Prop):G->Prop
 | leaf u b=>L u b
 | turn a=>a.wf L
 | two _ a b=>a.wf L/\b.wf L
end G
def pX:bF:=fun us M Q=>∃ u,us=[u]/\GH u/\Q (.bl (match u with | .int _=>true | _=>false)) M
theorem BO (F:cL K "is_whole" "is_whole" kP f fd) (hm:mg "is_whole"=some (.ref f)) (aO:mg "isinstance"=none) (kO:mg "int"=none) (jN:mg "bool"=none):Callee P w K mg base 1 "is_whole" pX []:=by
 refine bN F hm Cr (oA fun _ _ _ _ _ _ _=>rfl) (aH (aQ (j8 (cA fM aO (aA (uv 0) (aA (eK (n:="int") kO) aB))) (kF (N6 (cA fM aO (aA (uv 0) (aA (eK (n:="bool") jN) aB)))))))) ?_
 rintro us M Q ⟨u,rfl,ho,q⟩
 refine ⟨rfl,?_⟩
 cases u with
 | ref a=>exact ho.elim
 | ty a=>exact ho.elim
 | _=>simp_all! only [bP,bY,gI,view];exact aN q
def Ci:bF:=fun us M Q=>∃ u,us=[u]/\GH u/\Q (.bl (BW u)) M
theorem Cg {t1:Tok} (F:cL K "is_number" "is_number" jR f fd) (hm:mg "is_number"=some (.ref f)) (tM:mg "GREATEST"=some (.int 1000000000000000000 t1)) (jM:Callee P w K mg base 1 "is_whole" pX []):Callee P w K mg base 2 "is_number" Ci []:=by
 refine bN F hm AU (oA fun _ _ _ _ _ _ _=>rfl) (aH (aQ (j8 (aP jM (aA (uv 0) aB)) (kF (Gk uJ uJ aK (uv 0) (t6 tM)))))) ?_
 rintro us M Q ⟨u,rfl,ho,q⟩
 refine ⟨rfl,?_⟩
 simp_all! only [bP,bY,gI,view]
 refine ⟨u,rfl,ho,?_⟩
 cases u with
 | ref a=>exact ho.elim
 | ty a=>exact ho.elim
 | int i =>
  simp only [BW,eJ,iK,h9,jZ,kD,yR,qZ,fP,items,nS,rG,iW,n8,xT,xH,at2,zW,Option.some.injEq,exists_eq_left',true_and,and_true,tR,rA,iS,pH,mR,bP,bY,p7,uL,Ad,xG,xX,xY,mL,fG,oE,oJ,vP,qY,qU,rB,lR,qN,gO,fK,uC,kH,b8,cH,o7,cF,hName,fH,vQ,j6,oM,uI,gI,rH,n4,vN,pM,rE,j2,iR,kS,mW,nO,rD,mQ,qO,mU,j9,view,nM,uB,uA,zI,pL,qH,gK,mJ,pZ,qW,jX,nV,tK,kQ,nW,qD,mN,oW,List.map_cons,List.map_nil,List.length_cons,List.length_nil,List.cons_append,List.nil_append,List.replicate,List.getElem?_cons_zero,List.getElem?_cons_succ,List.set_cons_zero,List.set_cons_succ,List.append_nil,Nat.reduceAdd,Nat.reduceSub,Nat.sub_self,Nat.add_sub_cancel,Bool.not_false,Bool.not_true,if_true,if_false,Bool.false_eq_true,reduceCtorEq,decide_true,decide_false,cQ,cY,cZ,cM,cS,cR,e6,fQ,fR,d7,eW,fB,gC,gR,gP,e8,gG,fY,fV,gQ,gS,eV,fO,fS,d8,eT,eU,dI,dX,d4,eY,fX,gA,dW,eX,fC,fD,gF,fZ,dZ,fA,e7] at q ⊢
  by_cases h:0<=i
  ·rw [if_pos (decide_eq_true h)]
   rw [decide_eq_true h,Bool.true_and] at q
   exact aN q
  ·rw [if_neg (by simpa using h)]
   rw [decide_eq_false h,Bool.false_and] at q
   exact aN q
 | _=>simp_all! only [bP,bY,gI,view];exact aN q
def GF:bF:=fun us M Q=>∃ u,us=[u]/\((∃ b,LF u b/\Q (.bl false) M)\/(∃ (z:Str) (r:List U),u=.tup (.str z :: r)/\bV cE z=some (.int (r.length:Nat))/\Q (.bl true) M))
theorem FI (F:cL K "is_sign" "is_sign" lU f fd) (hm:mg "is_sign"=some (.ref f)) (aO:mg "isinstance"=none) (bA:mg "tuple"=none) (bU:mg "len"=none) (kL:mg "str"=none) (eQ:mK P w K d cE) (eS:mg "SIGNS"=some (.ref d)):Callee P w K mg base 1 "is_sign" GF []:=by
 refine bN F hm FG (oA fun _ _ _ _ _ _ _=>rfl) (aE (bS (i8.pt (jE (fF (dQ (cA fM aO (aA (uv 0) (aA (eK (n:="tuple") bA) aB))))) (jE (cB eB (cA iJ bU (aA (uv 0) aB)) aK) (iU (fF (dQ (cA fM aO (aA (aL (uv 0) aK) (aA (eK (n:="str") kL) aB)))))))))
 (aH (aQ mZ))
 bD)
 (aH (aQ (j8 (p9 (Ds eQ) (aL (uv 0) aK) (sF eS)) (kF (p9 eB (cA iJ bU (aA (uv 0) aB)) (dF (own:=false) aK (PC eQ (sF eS) (aL (uv 0) aK))))))))) ?_
 rintro us M Q ⟨u,rfl,h⟩
 refine ⟨rfl,?_⟩
 have hne:∀ n:Nat,decide (((n + 1:Nat):Int)=0)=false:=fun n=>decide_eq_false (by omega)
 have nn:bV cE (Str.ofString "num")=none:=by decide +kernel
 have nm:bV cE (Str.ofString "name")=none:=by decide +kernel
 have no:∀ (z:Str) (r:List U),bV cE z=none->Q (.bl false) M->gI (fH (bP d cE false) (fH pZ (fK 0) (uC (U.int 0))) (uC (U.ref d))) (fH (kD false) (qN nO (gO (fK 0) kH)) (fH (mJ false) (uC (U.int 1)) (fH (bY d cE) (uC (U.ref d)) (fH pZ (fK 0) (uC (U.int 0)))))) [some (.tup (.str z :: r))] M (iP Q):=fun z r h q=>by
  simp_all! only [h,Option.isSome_none,bP,bY,gI,view]
  exact aN q
 have yes:∀ (z:Str) (r:List U) (k:Nat),bV cE z=some (.int k)->Q (.bl (decide (r.length=k))) M->gI (fH (bP d cE false) (fH pZ (fK 0) (uC (U.int 0))) (uC (U.ref d))) (fH (kD false) (qN nO (gO (fK 0) kH)) (fH (mJ false) (uC (U.int 1)) (fH (bY d cE) (uC (U.ref d)) (fH pZ (fK 0) (uC (U.int 0)))))) [some (.tup (.str z :: r))] M (iP Q):=fun z r k h q=>by
  simp_all! only [h,Option.isSome_some,Fl.u,bP,bY,gI,view]
  refine aN ?_
  have e:decide (((r.length + 1:Nat):Int)=1 + (k:Int))=decide (r.length=k):=by
   by_cases e:r.length=k
   ·rw [decide_eq_true e];exact decide_eq_true (by omega)
   ·rw [decide_eq_false e];exact decide_eq_false (by omega)
  rw [e]
  exact q
 rcases h with ⟨b,hb,q⟩ | ⟨z,r,rfl,hz,q⟩
 ·cases hb with
  | word z r h h2 =>
   simp_all! only [hne,lM,nZ,lH,lK,lL,lG,kG,aS,gM]
   rcases h with h | ⟨k,h,hk⟩
   ·exact no z r h q
   ·exact yes z r k h (by rw [decide_eq_false hk];exact q)
  | num x h =>
   simp_all! only [hne,lM,nZ,lH,lK,lL,lG,kG,aS,gM]
   exact no _ _ nn q
  | name x h =>
   simp_all! only [hne,lM,nZ,lH,lK,lL,lG,kG,aS,gM]
   exact no _ _ nm q
  | tnil=>simp_all! only [show decide (((0:Nat):Int)=0)=true from rfl,bP,bY,gI,view];exact aN q
  | _=>simp_all! only [hne,bP,bY,gI,view];exact aN q
 ·simp_all! only [hne,lM,nZ,lH,lK,lL,lG,kG,aS,gM]
  exact yes z r r.length hz (by rw [decide_eq_true rfl];exact q)
def y9:bF:=fun us M Q=>∃ u b,us=[u]/\LF u b/\Q (.bl b) M
local macro_rules | `(tactic| dsimp! only [$xs,*] $[$l]?) => `(tactic| simp only [$xs,*, Bool.false_eq_true, Bool.not_false, Bool.not_true, List.append_nil, List.cons_append, List.getElem?_cons_succ, List.getElem?_cons_zero, List.length_cons, List.length_nil, List.map_cons, List.map_nil, List.nil_append, List.replicate, List.set_cons_succ, List.set_cons_zero, Nat.add_sub_cancel, Nat.reduceAdd, Nat.reduceLeDiff, Nat.reduceSub, Nat.sub_self, Option.getD_some, Option.some.injEq, and_true, xT, xH, at2, zW, rD, uS, mQ, qO, mW, nO, mU, p7, uL, j9, xY, xX, xG, Ad, eJ, decide_false, decide_true, pB, pA, exists_eq_left', h9, hName, jZ, iK, if_false, if_true, tK, bP, gK, cQ, cR, cY, cS, cZ, cM, e6, fB, fQ, eW, fR, d7, fD, e7, gF, fA, fZ, dZ, gC, fY, gR, gG, gP, e8, eY, fC, fX, eX, gA, dW, fV, fS, gQ, fO, gS, eV, d8, d4, eT, dX, eU, dI, items, bY, iS, n8, iW, pH, aD, j2, gM, aS, reduceCtorEq, fG, DZ, true_and, nM, mJ, mL, qY, gI, cF, tR, rA, mN, uC, qN, kS, mR, j6, gO, oW, iR, nS, n6, uB, uI, oM, vN, oJ, fP, pL, kQ, pZ, rE, qZ, tJ, uA, b8, kH, jX, qU, qH, n4, fH, vP, rH, nV, cH, o7, nW, qD, oE, dE, qW, lR, rB, pM, vQ, fK, rG, nZ, lH, lG, lM, kG, lK, lL] $[$l]?)
local macro_rules | `(tactic| dsimp? only [$xs,*] $[$l]?) => `(tactic| dsimp! only [$xs,*, RC, K0, sJ, bE, eD, Ba, Fv, Ep] $[$l]?)
theorem x9 (F:cL K "is_tree_leaf" "is_tree_leaf" gW f fd) (aO:mg "isinstance"=none) (bA:mg "tuple"=none) (bU:mg "len"=none) (C2:Callee P w K mg base 2 "is_number" Ci []) (uZ:Callee P w K mg base 1 "is_name" zC []):v9 P w K mg base 3 f y9:=by
 have h:iZ P w K mg base m5 3 f fd ["thing"] (fE K y9):=by
  refine DI F xA (fun us M Q h=>by obtain ⟨x,y,rfl,_⟩:=h;rfl) (aE (bS (i8.pt (jE (fF (dQ (cA fM aO (aA (uv 0) (aA (eK (n:="tuple") bA) aB))))) (iU (cB lQ (cA iJ bU (aA (uv 0) aB)) aK))))
 (aH (aQ mZ))
 bD)
 (aE (bS (cB eB (aL (uv 0) aK) dR)
 (aH (aQ (aP C2 (aA (aL (uv 0) aK) aB))))
 bD)
 (aH (aQ (j8 (p9 eB (aL (uv 0) aK) dR) (kF (aP uZ (aA (aL (uv 0) aK) aB)))))))) ?_
  rintro us M Q ⟨u,b,rfl,hb,q⟩
  have hl:∀ n:Nat,(!decide (((n + 1:Nat):Int)=2))=!decide (n=1):=fun n=>by
   by_cases e:n=1
   ·subst e;rfl
   ·rw [decide_eq_false e,decide_eq_false (by omega)]
  have w1:decide (Str.ofString "num"=Str.ofString "num")=true:=by decide +kernel
  have w2:decide (Str.ofString "name"=Str.ofString "num")=false:=by decide +kernel
  have w3:decide (Str.ofString "name"=Str.ofString "name")=true:=by decide +kernel
  cases hb with
  | tnil=>dsimp? only [show (!decide (((0:Nat):Int)=2))=true from rfl];exact aN q
  | tt xs r h =>
   by_cases e:r.length=1
   ·dsimp? only [hl,e]
    refine h e _ _ _ (by decide +kernel) ?_
    dsimp? only [true_and]
    refine h e _ _ _ (by decide +kernel) ?_
    dsimp? only [true_and]
    exact aN q
   ·dsimp? only [hl,e]
    exact aN q
  | tl xs r h =>
   by_cases e:r.length=1
   ·dsimp? only [hl,e]
    refine h e _ _ _ (by decide +kernel) ?_
    dsimp? only [true_and]
    refine h e _ _ _ (by decide +kernel) ?_
    dsimp? only [true_and]
    exact aN q
   ·dsimp? only [hl,e]
    exact aN q
  | word z r h h2 =>
   by_cases e:r.length=1
   ·obtain ⟨n1,n2⟩:=h2 e
    dsimp? only [hl,e,n1,n2]
    exact aN q
   ·dsimp? only [hl,e]
    exact aN q
  | num x h =>
   dsimp? only [hl,w1]
   exact ⟨x,rfl,h,aN q⟩
  | name x h =>
   dsimp? only [hl,w2,w3]
   exact ⟨x,rfl,h,aN q⟩
  | tn r =>
   by_cases e:r.length=1
   ·dsimp? only [hl,e,MR]
    exact aN q
   ·dsimp? only [hl,e]
    exact aN q
  | _=>dsimp? only [true_and];exact aN q
 exact ⟨fd,_,h,F.kp,F.binds (oA fun _ _ _ _ _ _ _=>rfl)⟩
def ent (x:G × Nat):U:=.tup [x.1.toU,.int (x.2:Nat)]
def sE:List (G × Nat)->Nat
 | []=>0
 | x :: r=>x.1.size + sE r
theorem rS:∀ l r:List (G × Nat),sE (l++r)=sE l + sE r
 | [],_=>by simp [sE]
 | t :: l,r=>by simp [sE,rS l r];omega
def VV (c:Nat) (st:List (G × Nat)):Prop:=c + sE st<=200/\(∀ x∈st,x.2 + x.1.dep<=41)/\∀ x∈st,x.1.fit=true
def tI (g:G):Bool:=decide (g.size<=200) && (decide (g.dep<=40) && g.fit)
theorem BQ (g:G):tI g=true ↔ VV 0 [(g,1)]:=by
 unfold tI VV
 simp only [Bool.and_eq_true,decide_eq_true_eq,sE,List.mem_cons,List.not_mem_nil,or_false,forall_eq]
 constructor
 ·rintro ⟨a,b,c⟩;exact ⟨by omega,by omega,c⟩
 ·rintro ⟨a,b,c⟩;exact ⟨by omega,by omega,c⟩
theorem MH {c d:Nat} {st:List (G × Nat)} {a:G}:VV (c + 1) (st++[(a,d + 1)]) ↔ VV c (st++[(G.turn a,d)]):=by
 unfold VV
 simp only [rS,sE,List.mem_append,List.mem_cons,List.not_mem_nil,or_false,G.size]
 constructor
 ·rintro ⟨h1,h2,h3⟩
  refine ⟨by omega,fun x hx=>?_,fun x hx=>?_⟩
  ·rcases hx with hx | rfl
   ·exact h2 x (.inl hx)
   ·have:=h2 (a,d + 1) (.inr rfl);simp only [G.dep] at this ⊢;omega
  ·rcases hx with hx | rfl
   ·exact h3 x (.inl hx)
   ·exact h3 (a,d + 1) (.inr rfl)
 ·rintro ⟨h1,h2,h3⟩
  refine ⟨by omega,fun x hx=>?_,fun x hx=>?_⟩
  ·rcases hx with hx | rfl
   ·exact h2 x (.inl hx)
   ·have:=h2 (G.turn a,d) (.inr rfl);simp only [G.dep] at this ⊢;omega
  ·rcases hx with hx | rfl
   ·exact h3 x (.inl hx)
   ·exact h3 (G.turn a,d) (.inr rfl)
theorem NS {c d:Nat} {st:List (G × Nat)} {a b:G} {o:Op}:VV (c + 1) (st++[(a,d + 1),(b,d + 1)]) ↔ VV c (st++[(G.two o a b,d)]):=by
 unfold VV
 simp only [rS,sE,List.mem_append,List.mem_cons,List.not_mem_nil,or_false,G.size]
 constructor
 ·rintro ⟨h1,h2,h3⟩
  refine ⟨by omega,fun x hx=>?_,fun x hx=>?_⟩
  ·rcases hx with hx | rfl
   ·exact h2 x (.inl hx)
   ·have e1:=h2 (a,d + 1) (.inr (.inl rfl));have e2:=h2 (b,d + 1) (.inr (.inr rfl));simp only [G.dep] at e1 e2 ⊢;omega
  ·rcases hx with hx | rfl
   ·exact h3 x (.inl hx)
   ·have e1:=h3 (a,d + 1) (.inr (.inl rfl));have e2:=h3 (b,d + 1) (.inr (.inr rfl));simp only [G.fit] at e1 e2 ⊢;rw [e1,e2];rfl
 ·rintro ⟨h1,h2,h3⟩
  have e1:=h2 (G.two o a b,d) (.inr rfl)
  have e2:=h3 (G.two o a b,d) (.inr rfl)
  simp only [G.dep,G.fit,Bool.and_eq_true] at e1 e2
  refine ⟨by omega,fun x hx=>?_,fun x hx=>?_⟩
  ·rcases hx with hx | rfl | rfl
   ·exact h2 x (.inl hx)
   ·simp only;omega
   ·simp only;omega
  ·rcases hx with hx | rfl | rfl
   ·exact h3 x (.inl hx)
   ·exact e2.1
   ·exact e2.2
theorem Nj {c d:Nat} {st:List (G × Nat)} {u:U} (hd:d<=40):VV (c + 1) st ↔ VV c (st++[(G.leaf u true,d)]):=by
 unfold VV
 simp only [rS,sE,List.mem_append,List.mem_cons,List.not_mem_nil,or_false,G.size]
 constructor
 ·rintro ⟨h1,h2,h3⟩
  refine ⟨by omega,fun x hx=>?_,fun x hx=>?_⟩
  ·rcases hx with hx | rfl
   ·exact h2 x hx
   ·simp only [G.dep];omega
  ·rcases hx with hx | rfl
   ·exact h3 x hx
   ·rfl
 ·rintro ⟨h1,h2,h3⟩
  exact ⟨by omega,fun x hx=>h2 x (.inl hx),fun x hx=>h3 x (.inl hx)⟩
theorem Mt {α:Type} (l:List α):l=[]\/∃ r x,l=r++[x]:=by
 rcases List.eq_nil_or_concat l with h | ⟨r,x,h⟩
 ·exact .inl h
 ·exact .inr ⟨r,x,by simpa using h⟩
def Dx (fl:Addr) (s:bF):bF:=fun us M Q=>∃ (g:G) (L:U->Bool->Prop),us=[g.toU,.ref fl,.int 200,.int 40]/\g.wf L/\(∀ u b,L u b->∃ b',LF u b')/\(∀ u b M' Q',Sub M M'->L u b->Q' (.bl b) M'->s [u] M' Q')/\Q (.bl (tI g)) M
theorem Kj:bV cE (Str.ofString "turn")=some (.int 1):=by kernel_rfl
theorem L3 (o:Op):bV cE o.word=some (.int 2):=by cases o <;> kernel_rfl
theorem Cz (F:cL K "is_shape" "is_shape" kX f fd) (hm:mg "is_shape"=some (.ref f)) (G4:Callee P w K mg base 1 "is_sign" GF []) {s:bF} {ka:Nat} (A_is_leaf:d9 P w K mg base (ka + 1) fl s):Callee P w K mg base (ka + 2) "is_shape" (Dx fl s) []:=by
 refine bN F hm iL (Q4 fun _ _ _ _ _ _ _ _ _ _=>rfl) (aE (aZ 4 iL.nd aK)
 (aE (aZ 5 iL.nd (cU (own:=true) (aA (bC (aA (uv 0) (aA aK aB))) aB)))
 (aE (KO (dQ (uv 5))
 (aE (aZ 6 iL.nd (rK (uv 5)))
 (aE (aZ 7 iL.nd (aL (uv 6) aK))
 (aE (aZ 8 iL.nd (aL (uv 6) aK))
 (aE (aZ 4 iL.nd (dF (own:=false) (uv 4) aK))
 (aE (bS (i8.pt (jE (cB yK (uv 4) (uv 2)) (iU (cB yK (uv 8) (uv 3)))))
 (aH (aQ mZ))
 bD)
 (aH (bS (dQ (aP G4 (aA (uv 7) aB)))
 (aH (gX (uW (uv 5) (aA (iF false ["part","depth"] 1 [8] (dO (mV (own:=false) (uv 7) (iT aK) nA)) (aY (k:=1) 0 (by dsimp only [bO];decide +kernel)) gH (bC (aA (uv 0) (aA (dF (own:=false) (uv 1) aK) aB)))) aB))))
 (aH (bS (fF (dQ (wH 1 A_is_leaf (aA (uv 7) aB))))
 (aH (aQ mZ))
 bD))))))))))
 (aH (aQ mZ))))) ?_
 rintro us M Q ⟨g,L,rfl,hwf,hLF,hs,q⟩
 refine ⟨rfl,?_⟩
 dsimp? only [true_and]
 refine fun p hp=>?_
 refine J0 (fun τ M'=>∃ (c:Nat) (st:List (G × Nat)) (e1 e2 e3:Option U),τ=[some g.toU,some (.ref fl),some (.int 200),some (.int 40),some (.int (c:Nat)),some (.ref p),e1,e2,e3]/\M'=mup M p (.lst (st.map ent))/\(∀ x∈st,x.1.wf L)/\c<=200/\st.length<=c + 1/\(VV c st ↔ VV 0 [(g,1)]))
  (fun τ _=>match τ with | [_,_,_,_,some (.int c),_,_,_,_]=>201 - c.toNat | _=>0) ⟨0,[(g,1)],none,none,none,rfl,rfl,(fun x hx=>by cases List.mem_singleton.mp hx;exact hwf),by omega,by simp,Iff.rfl⟩ ?_
 rintro τ M' ⟨c,st,e1,e2,e3,rfl,rfl,hst,hc,hlen,hV⟩
 have no:¬ VV c st->Q (.bl false) M:=fun h=>by
  have:tI g=false:=by
   cases hv:tI g with
   | false=>rfl
   | true=>exact absurd (hV.mpr ((BQ g).mp hv)) h
  rw [this] at q
  exact q
 have fin:∀ us,iP Q (.bl false) (mup M p (.lst us)) ↔ iP Q (.bl false) (mup M p (.lst us)):=fun _=>Iff.rfl
 have out:∀ us,Q (.bl false) M->iP Q (.bl false) (mup M p (.lst us)):=fun us h=>⟨_,M,(Sub.refl M).mup hp,.inl rfl,h⟩
 rcases Mt st with rfl | ⟨st,⟨x,dd⟩,rfl⟩
 ·dsimp? only [List.isEmpty_nil]
  have:tI g=true:=by
   rw [BQ,<- hV]
   exact ⟨by simp only [sE];omega,(fun x hx=>by cases hx),(fun x hx=>by cases hx)⟩
  rw [this] at q
  exact ⟨_,M,(Sub.refl M).mup hp,.inl rfl,q⟩
 ·have hlen':st.length<=c:=by simpa using hlen
  have hxw:x.wf L:=hst (x,dd) (by simp)
  have hse:(st.map ent++[U.tup [x.toU,U.int (dd:Nat)]]).isEmpty=false:=by simp
  dsimp? only [List.map_append,hse,JS,IQ,ent]
  refine ⟨dY,mI (fun h=>?_) (fun h=>mI (fun h2=>?_) (fun h2=>?_))⟩
  ·refine out _ (no fun hv=>?_)
   have:=of_decide_eq_true h
   have h3:=hv.1
   rw [rS] at h3
   have h4:1<=x.size:=by cases x <;> simp only [G.size] <;> omega
   simp only [sE] at h3
   omega
  ·refine out _ (no fun hv=>?_)
   have:=of_decide_eq_true h2
   have h3:=hv.2.1 (x,dd) (by simp)
   have h4:1<=x.dep:=by cases x <;> simp only [G.dep] <;> omega
   simp only at h3
   omega
  ·have hc1:c + 1<=200:=by
    have:¬ (200:Int) < (c:Int) + 1:=fun z=>h (decide_eq_true z)
    omega
   have hdd:dd<=40:=by
    have:¬ (40:Int) < (dd:Int):=fun z=>h2 (decide_eq_true z)
    omega
   have hst':∀ y∈st,y.1.wf L:=fun y hy=>hst y (by simp [hy])
   cases x with
   | leaf u b =>
    obtain ⟨b',hb'⟩:=hLF u b hxw
    refine ⟨_,rfl,.inl ⟨b',hb',?_⟩⟩
    dsimp? only [true_and]
    refine hs u b _ _ ((Sub.refl M).mup hp) hxw ?_
    cases b with
    | false =>
     dsimp? only [true_and]
     refine out _ (no fun hv=>?_)
     have:=hv.2.2 (G.leaf u false,dd) (by simp)
     cases this
    | true =>
     dsimp? only [true_and]
     refine ⟨⟨c + 1,st,_,_,_,rfl,rfl,hst',hc1,by omega,?_⟩,by omega⟩
     rw [<- hV]
     exact Nj hdd
   | turn a =>
    refine ⟨_,rfl,.inr ⟨_,_,rfl,Kj,?_⟩⟩
    dsimp? only [G.toU]
    refine ⟨dY,cO (S:=⟨none,[a.toU]⟩) (M1:=mup M p (.lst (st.map ent))) [ent (a,dd + 1)] (fun R r=>?_) rfl (show 1<=sizeLine by decide) (fun a e=>by cases e) ?_ ?_⟩
    ·dsimp? only [wJ]
     exact r
    ·intro j x y hx hy M' _ R r'
     match j,hx,hy with
     | 0,hx,hy =>
      cases hx;cases hy
      dsimp? only [true_and]
      first | refine ⟨by decide,?_⟩ | skip
      have e:U.tup [a.toU,U.int ((dd:Int) + 1)]=ent (a,dd + 1):=rfl
      rw [e];exact r'
     | j + 1,hx,hy=>cases hx
    ·dsimp? only [true_and]
     refine ⟨small (by simp;omega),⟨c + 1,st++[(a,dd + 1)],_,_,_,rfl,by rw [List.map_append];rfl,?_,hc1,by simp;omega,?_⟩,by omega⟩
     ·intro y hy
      rcases List.mem_append.mp hy with hy | hy
      ·exact hst' y hy
      ·cases List.mem_singleton.mp hy;exact hxw
     ·rw [<- hV];exact MH
   | two o a b =>
    refine ⟨_,rfl,.inr ⟨_,_,rfl,L3 o,?_⟩⟩
    dsimp? only [G.toU]
    refine ⟨dY,cO (S:=⟨none,[a.toU,b.toU]⟩) (M1:=mup M p (.lst (st.map ent))) [ent (a,dd + 1),ent (b,dd + 1)] (fun R r=>?_) rfl (show 2<=sizeLine by decide) (fun a e=>by cases e) ?_ ?_⟩
    ·dsimp? only [wJ]
     exact r
    ·intro j x y hx hy M' _ R r'
     match j,hx,hy with
     | 0,hx,hy =>
      cases hx;cases hy
      dsimp? only [true_and]
      first | refine ⟨by decide,?_⟩ | skip
      have e:U.tup [a.toU,U.int ((dd:Int) + 1)]=ent (a,dd + 1):=rfl
      rw [e];exact r'
     | 1,hx,hy =>
      cases hx;cases hy
      dsimp? only [true_and]
      first | refine ⟨by decide,?_⟩ | skip
      have e:U.tup [b.toU,U.int ((dd:Int) + 1)]=ent (b,dd + 1):=rfl
      rw [e];exact r'
     | j + 2,hx,hy=>cases hx
    ·dsimp? only [true_and]
     refine ⟨small (by simp;omega),⟨c + 1,st++[(a,dd + 1),(b,dd + 1)],_,_,_,rfl,by rw [List.map_append];rfl,?_,hc1,by simp;omega,?_⟩,by omega⟩
     ·intro y hy
      rcases List.mem_append.mp hy with hy | hy
      ·exact hst' y hy
      ·simp only [List.mem_cons,List.not_mem_nil,or_false] at hy
       rcases hy with rfl | rfl
       ·exact hxw.1
       ·exact hxw.2
     ·rw [<- hV];exact NS
def Bv:bF:=fun us M Q=>∃ g:G,us=[g.toU]/\g.wf LF/\Q (.bl (tI g)) M
theorem Fw {t1 t2:Tok} (F:cL K "is_tree" "is_tree" mG f fd) (hm:mg "is_tree"=some (.ref f)) (nD:mg "is_tree_leaf"=some (.ref fl)) (oD:mg "TREE_PIECES"=some (.int 200 t1)) (oF:mg "TREE_WITHIN"=some (.int 40 t2)) (Fe:Callee P w K mg base 4 "is_shape" (Dx fl y9) []):Callee P w K mg base 5 "is_tree" Bv []:=by
 refine bN F hm EC (oA fun _ _ _ _ _ _ _=>rfl) (aH (aQ (aP Fe (aA (uv 0) (aA (sF nD) (aA (t6 oD) (aA (t6 oF) aB))))))) ?_
 rintro us M Q ⟨g,rfl,hwf,q⟩
 refine ⟨rfl,?_⟩
 dsimp? only [true_and]
 exact ⟨g,LF,rfl,hwf,fun u b h=>⟨b,h⟩,fun u b M' Q' _ h hq=>⟨u,b,rfl,h,hq⟩,aN q⟩
def Tr.size:Tr->Nat
 | .num _=>1
 | .name _=>1
 | .turn a=>a.size + 1
 | .two _ a b=>a.size + b.size + 1
def Tr.good:Tr->Prop
 | .num n=>0<=n/\n<=10 ^ 18
 | .name x=>x.length<=8/\1<=x.length/\∀ c∈x.cps.toList,97<=c/\c<=122
 | .turn a=>a.good
 | .two _ a b=>a.good/\b.good
def gT:Tr->G
 | .num k=>.leaf (Tr.num k).toU true
 | .name x=>.leaf (Tr.name x).toU true
 | .turn a=>.turn (gT a)
 | .two o a b=>.two o (gT a) (gT b)
theorem ER:∀ t:Tr,(gT t).toU=t.toU
 | .num _=>rfl
 | .name _=>rfl
 | .turn a=>by simp only [gT,G.toU,Tr.toU,ER a]
 | .two o a b=>by simp only [gT,G.toU,Tr.toU,ER a,ER b]
theorem u4:∀ t:Tr,(gT t).size=t.size
 | .num _=>rfl
 | .name _=>rfl
 | .turn a=>by simp only [gT,G.size,Tr.size,u4 a]
 | .two o a b=>by simp only [gT,G.size,Tr.size,u4 a,u4 b]
theorem xD:∀ t:Tr,(gT t).dep=t.dep
 | .num _=>rfl
 | .name _=>rfl
 | .turn a=>by simp only [gT,G.dep,Tr.dep,xD a]
 | .two o a b=>by simp only [gT,G.dep,Tr.dep,xD a,xD b]
theorem w9:∀ t:Tr,(gT t).fit=true
 | .num _=>rfl
 | .name _=>rfl
 | .turn a=>w9 a
 | .two o a b=>by simp only [gT,G.fit,w9 a,w9 b,Bool.and_self]
theorem M7 (c:Nat):decide (c∈vI.cps.toList)=decide (97<=c/\c<=122):=by
 have:vI.cps.toList=List.range' 97 26:=by decide +kernel
 rw [this]
 refine decide_eq_decide.mpr ?_
 rw [List.mem_range'_1]
 omega
theorem Ow (c:Nat):(!(Builtin.Str.occurrences vI ⟨#[c]⟩ 0 vI.length 1).isEmpty)=decide (97<=c/\c<=122):=by rw [PySem.StrLaws.found_one,M7]
theorem D9 {x:Str} (h:x.length<=8/\1<=x.length/\∀ c∈x.cps.toList,97<=c/\c<=122):isName (.str x)=true:=by
 simp only [isName,Bool.and_eq_true,decide_eq_true_eq]
 refine ⟨⟨h.2.1,h.1⟩,List.all_eq_true.mpr fun c hc=>?_⟩
 unfold isLetter
 rw [Ow]
 exact decide_eq_true (h.2.2 c hc)
theorem OE {x:Str} (h:x.length<=8):x.length<=sizeLine:=small (by omega)
theorem AD:∀ t:Tr,t.good->(gT t).wf LF
 | .num k,h=>by
  have h2:k<=1000000000000000000:=h.2
  have e:BW (.int k)=true:=by simp [BW,h.1,h2]
  have:=LF.num (.int k) trivial
  rw [e] at this
  exact this
 | .name x,h=>by
  have h':isName (.str x)=true:=D9 h
  have hl:x.length<=sizeLine:=small (by have:=h.1;omega)
  have:=LF.name (.str x) hl
  rw [h'] at this
  exact this
 | .turn a,h=>AD a h
 | .two o a b,h=>⟨AD a h.1,AD b h.2⟩
theorem Mr {t:Tr} (hs:t.size<=200) (hd:t.dep<=40):tI (gT t)=true:=by
 unfold tI
 rw [u4,xD,w9 t,decide_eq_true hs,decide_eq_true hd];rfl
theorem rX:∀ (p:Pt) (r:Tr),p.ok->p.holes=0->gB p r=true->(∀ z,U.str z∈bZ p r->Bm z/\z.length<=8)->r.good/\r.dep=p.dep/\r.size + 1<=2 ^ p.dep
 | .hole c,r,_,h,_,_=>by cases h
 | .any,r,_,_,h,hz=>by
  cases r with
  | name x =>
   have:=hz x (by simp [bZ])
   exact ⟨⟨this.2,this.1.2⟩,rfl,Nat.le_refl 2⟩
  | _=>cases h
 | .fr l hh,r,ho,_,h,hz=>by
  cases r with
  | num n =>
   simp only [gB,Bool.and_eq_true,decide_eq_true_eq] at h
   have ho':0<=l/\l<=hh/\hh<=10 ^ 18:=ho
   exact ⟨⟨by omega,by omega⟩,rfl,Nat.le_refl 2⟩
  | _=>cases h
 | .turn p,r,ho,hn,h,hz=>by
  cases r with
  | turn a =>
   obtain ⟨h1,h2,h3⟩:=rX p a ho hn h hz
   refine ⟨h1,by simp only [Tr.dep,Pt.dep,h2],?_⟩
   simp only [Tr.size,Pt.dep,Nat.pow_succ]
   have:1<=2 ^ p.dep:=Nat.one_le_two_pow
   omega
  | _=>cases h
 | .two o p q,r,ho,hn,h,hz=>by
  cases r with
  | two o' a b =>
   simp only [gB,Bool.and_eq_true] at h
   simp only [Pt.holes] at hn
   obtain ⟨h1,h2,h3⟩:=rX p a ho.1 (by omega) h.2.1 fun z hm=>hz z (by simp only [bZ];exact List.mem_append_left _ hm)
   obtain ⟨g1,g2,g3⟩:=rX q b ho.2 (by omega) h.2.2 fun z hm=>hz z (by simp only [bZ];exact List.mem_append_right _ hm)
   refine ⟨⟨h1,g1⟩,by simp only [Tr.dep,Pt.dep,h2,g2],?_⟩
   simp only [Tr.size,Pt.dep,Nat.pow_succ]
   have e1:2 ^ p.dep<=2 ^ max p.dep q.dep:=Nat.pow_le_pow_right (by decide) (Nat.le_max_left _ _)
   have e2:2 ^ q.dep<=2 ^ max p.dep q.dep:=Nat.pow_le_pow_right (by decide) (Nat.le_max_right _ _)
   omega
  | _=>cases h
def nb:Pt->Nat
 | .hole _=>0
 | .any=>1
 | .fr _ _=>1
 | .turn p=>nb p
 | .two _ p q=>nb p + nb q
theorem qB:∀ (p:Pt) (r:Tr),gB p r=true->(bZ p r).length=nb p
 | .hole c,r,_=>by cases r <;> rfl
 | .any,r,h=>by cases r <;> first | rfl | cases h
 | .fr l hh,r,h=>by cases r <;> first | rfl | cases h
 | .turn p,r,h=>by
  cases r with
  | turn a=>exact qB p a h
  | _=>cases h
 | .two o p q,r,h=>by
  cases r with
  | two o' a b =>
   simp only [gB,Bool.and_eq_true] at h
   simp only [bZ,List.length_append,nb,qB p a h.2.1,qB q b h.2.2]
  | _=>cases h
theorem uH:∀ (p:Pt) (r r':Tr),p.holes=0->gB p r=true->gB p r'=true->bZ p r=bZ p r'->r=r'
 | .hole c,r,r',h,_,_,_=>by cases h
 | .any,r,r',_,h,h',e=>by
  cases r <;> first | cases h | skip
  cases r' <;> first | cases h' | skip
  simp only [bZ,List.cons.injEq,U.str.injEq,and_true] at e
  rw [e]
 | .fr l hh,r,r',_,h,h',e=>by
  cases r <;> first | cases h | skip
  cases r' <;> first | cases h' | skip
  simp only [bZ,List.cons.injEq,U.int.injEq,and_true] at e
  rw [e]
 | .turn p,r,r',hn,h,h',e=>by
  cases r with
  | turn a =>
   cases r' with
   | turn a'=>rw [uH p a a' hn h h' e]
   | _=>cases h'
  | _=>cases h
 | .two o p q,r,r',hn,h,h',e=>by
  cases r with
  | two o1 a b =>
   cases r' with
   | two o2 a' b' =>
    simp only [gB,Bool.and_eq_true,decide_eq_true_eq] at h h'
    simp only [Pt.holes] at hn
    simp only [bZ] at e
    obtain ⟨e1,e2⟩:=List.append_inj e (by rw [qB p a h.2.1,qB p a' h'.2.1])
    rw [<- h.1,<- h'.1,uH p a a' (by omega) h.2.1 h'.2.1 e1,uH q b b' (by omega) h.2.2 h'.2.2 e2]
   | _=>cases h'
  | _=>cases h
theorem pQ:∀ (l:List Pt) (bs:List U),gD l bs->∀ z,U.str z∈bs->Bm z/\z.length<=8
 | [],bs,h,z,hz=>by
  have h':bs=[]:=h
  rw [h'] at hz;cases hz
 | .hole _ :: l,bs,h,z,hz=>pQ l bs h z hz
 | .any :: l,bs,h,z,hz=>by
  obtain ⟨y,bs',rfl,h1,h2,h3⟩:=h
  rcases List.mem_cons.mp hz with e | hz
  ·cases e;exact ⟨h1,h2⟩
  ·exact pQ l bs' h3 z hz
 | .fr lo hi :: l,bs,h,z,hz=>by
  obtain ⟨y,bs',rfl,h1,h2,h3⟩:=h
  rcases List.mem_cons.mp hz with e | hz
  ·cases e
  ·exact pQ l bs' h3 z hz
def Lq (p:Pt) (v:U):Prop:=(p=.any/\∃ z,v=.str z/\Bm z/\z.length<=8)\/∃ l h n,p=.fr l h/\v=.int n/\l<=n/\n<=h
theorem qE:∀ (l:List Pt) (bs:List U),gD l bs->(∀ e∈l,e.holes=0)->l.length=bs.length/\∀ (i:Nat) p v,l[i]?=some p->bs[i]?=some v->Lq p v
 | [],bs,h,_=>by
  have h':bs=[]:=h
  rw [h'];exact ⟨rfl,fun i p v e=>by cases e⟩
 | .hole _ :: l,bs,h,hh=>by have:=hh _ List.mem_cons_self;cases this
 | .any :: l,bs,h,hh=>by
  obtain ⟨y,bs',rfl,h1,h2,h3⟩:=h
  obtain ⟨g1,g2⟩:=qE l bs' h3 fun e he=>hh e (List.mem_cons_of_mem _ he)
  refine ⟨by simp [g1],fun i p v e1 e2=>?_⟩
  cases i with
  | zero=>cases e1;cases e2;exact .inl ⟨rfl,y,rfl,h1,h2⟩
  | succ i=>exact g2 i p v (by simpa using e1) (by simpa using e2)
 | .fr lo hi :: l,bs,h,hh=>by
  obtain ⟨y,bs',rfl,h1,h2,h3⟩:=h
  obtain ⟨g1,g2⟩:=qE l bs' h3 fun e he=>hh e (List.mem_cons_of_mem _ he)
  refine ⟨by simp [g1],fun i p v e1 e2=>?_⟩
  cases i with
  | zero=>cases e1;cases e2;exact .inr ⟨lo,hi,y,rfl,rfl,h1,h2⟩
  | succ i=>exact g2 i p v (by simpa using e1) (by simpa using e2)
theorem lV:∀ p:Pt,p.holes=0->∀ e∈p.ends,e.holes=0
 | .hole c,h,e,he=>by cases h
 | .any,h,e,he=>by cases List.mem_singleton.mp he;rfl
 | .fr l hh,h,e,he=>by cases List.mem_singleton.mp he;rfl
 | .turn p,h,e,he=>lV p h e he
 | .two o p q,h,e,he=>by
  simp only [Pt.holes] at h
  simp only [Pt.ends] at he
  rcases List.mem_append.mp he with he | he
  ·exact lV p (by omega) e he
  ·exact lV q (by omega) e he
def DK:bF:=fun us M Q=>∃ (p:Pt) (v:U),us=[p.toU,v]/\Lq p v/\Q (.bl true) M
local macro_rules | `(tactic| simp! only [$xs,*] $[$l]?) => `(tactic| simp only [$xs,*, Bool.false_eq_true, Bool.not_false, Bool.not_true, List.append_nil, List.cons_append, List.getElem?_cons_succ, List.getElem?_cons_zero, List.length_cons, List.length_nil, List.map_cons, List.map_nil, List.nil_append, List.replicate, List.set_cons_succ, List.set_cons_zero, Nat.add_sub_cancel, Nat.reduceAdd, Nat.reduceLeDiff, Nat.reduceSub, Nat.sub_self, Option.getD_some, Option.some.injEq, and_true, xT, xH, at2, zW, rD, uS, mQ, qO, mW, nO, mU, p7, uL, j9, xY, xX, xG, Ad, eJ, decide_false, decide_true, pB, pA, exists_eq_left', if_false, if_true, tK, gK, cQ, cR, cY, cS, cZ, cM, e6, fB, fQ, eW, fR, d7, fD, e7, gF, fA, fZ, dZ, gC, fY, gR, gG, gP, e8, eY, fC, fX, eX, gA, dW, fV, fS, gQ, fO, gS, eV, d8, d4, eT, dX, eU, dI, items, iS, n8, iW, pH, j2, gM, aS, reduceCtorEq, fG, DZ, true_and, nM, mJ, mL, qY, gI, tR, rA, uC, qN, kS, mR, j6, gO, nS, n6, uB, uI, oM, vN, pL, kQ, pZ, rE, qZ, tJ, uA, kH, jX, qU, qH, n4, fH, vP, rH, nV, nW, qD, qW, lR, rB, pM, vQ, fK, rG, nZ, lH, lG, lM, kG, lK, lL] $[$l]?)
theorem Ks (F:cL K "fits" "fits" rQ f fd) (hm:mg "fits"=some (.ref f)) (uZ:Callee P w K mg base 1 "is_name" zC []) (jM:Callee P w K mg base 1 "is_whole" pX []):Callee P w K mg base 2 "fits" DK []:=by
 refine bN F hm Nk (oP fun _ _ _ _ _ _ _ _=>rfl) (aE (bS (cB eB (aL (uv 0) aK) dR)
 (aH (aQ (aP uZ (aA (uv 1) aB))))
 bD)
 (aH (aQ (j8 (aP jM (aA (uv 1) aB)) (kF (Gk uJ uJ (aL (uv 0) aK) (uv 1) (aL (uv 0) aK))))))) ?_
 rintro us M Q ⟨p,v,rfl,hf,q⟩
 refine ⟨rfl,?_⟩
 refine aM fun V1 hV1=>?_
 refine bQ fun A B hA hB=>?_
 rcases hf with ⟨rfl,z,rfl,h1,h2⟩ | ⟨l,h,n,rfl,rfl,h1,h2⟩
 ·simp! only [Pt.toU,aD]
  subst hA
  simp! only [cH,aD]
  refine ⟨_,rfl,OE h2,?_⟩
  rw [D9 ⟨h2,h1.2.1,h1.2.2⟩]
  exact aN q
 ·simp! only [Pt.toU,show decide (Str.ofString "from"=Str.ofString "any")=false by decide +kernel,aD]
  subst hB
  simp only [b8]
  subst hV1
  simp! only [cH,Pt.toU,aD]
  refine ⟨_,rfl,trivial,?_⟩
  simp! only [h1,h2,aD]
  exact aN q
def yY:bF:=fun us M Q=>∃ n:Int,us=[.int n]/\0<=n/\n < 100/\Q (.bl true) M
theorem FW {t1:Tok} (F:cL K "is_cell" "is_cell" mB f fd) (hm:mg "is_cell"=some (.ref f)) (yX:mg "CELLS"=some (.int 100 t1)) (jM:Callee P w K mg base 1 "is_whole" pX []):Callee P w K mg base 2 "is_cell" yY []:=by
 refine bN F hm E7 (oA fun _ _ _ _ _ _ _=>rfl) (aH (aQ (j8 (aP jM (aA (uv 0) aB)) (kF (Gk uJ xP aK (uv 0) (t6 yX)))))) ?_
 rintro us M Q ⟨n,rfl,h1,h2,q⟩
 refine ⟨rfl,?_⟩
 simp! only [cH,aD]
 refine ⟨_,rfl,trivial,?_⟩
 simp! only [h1,h2,aD]
 exact aN q
theorem v3 (p:Pt) (h:p.holes=0):DC p=cV p []:=by
 unfold DC
 refine List.filter_eq_self.mpr fun e he=>?_
 have h1:e.2∈p.ends:=by rw [<- kM p []];exact List.mem_map_of_mem he
 have h2:=lV p h _ h1
 unfold kB
 exact decide_eq_true h2
theorem qG:∀ (p:Pt) (pl:List Nat),p.holes=0->∀ e∈cI p pl,e.2.holes=0
 | .hole c,pl,h,e,he=>by cases h
 | .any,pl,h,e,he=>by cases List.mem_singleton.mp he;rfl
 | .fr l hh,pl,h,e,he=>by cases List.mem_singleton.mp he;rfl
 | .turn p,pl,h,e,he=>by
  rcases List.mem_cons.mp he with rfl | he
  ·exact h
  ·exact qG p _ h e he
 | .two o p q,pl,h,e,he=>by
  rcases List.mem_cons.mp he with rfl | he
  ·exact h
  ·simp only [Pt.holes] at h
   rcases List.mem_append.mp he with he | he
   ·exact qG p _ (by omega) e he
   ·exact qG q _ (by omega) e he
theorem AY:∀ (p:Pt),p.holes=0->OJ p=[]:=by
 intro p h
 unfold OJ
 refine List.filterMap_eq_nil_iff.mpr fun e he=>?_
 have:=qG p [] h e he
 unfold hF
 split
 ·rename_i c hc;rw [hc] at this;cases this
 ·rfl
theorem GZ (F:cL K "leaves" "leaves" m7 f fd) (hm:mg "leaves"=some (.ref f)) (eQ:mK P w K d cE) (eS:mg "SIGNS"=some (.ref d)) (lI:Callee P w K mg base 7 "places_of" (nB 6) []) (tO:Callee P w K mg base 2 "shape_at" Eg []):Callee P w K mg base 8 "leaves" Cf []:=by
 refine bN F hm zJ (oA fun _ _ _ _ _ _ _=>rfl) (aE (vD 1 zJ.nd false ["place","pattern"] 1 [0] (dO (aP lI (aA (uv 0) aB))) (aY (k:=1) 0 (by dsimp only [bO];decide +kernel)) gH (bC (aA (uv 0) (aA (aP tO (aA (uv 1) (aA (uv 0) aB))) aB))))
 (aH (aQ (iF false ["place","piece"] 2 [] (dO (uv 1)) (iX (n:=2) (bH (aY (k:=2) 0 (by dsimp only [bO];decide +kernel)) (bH (aY (k:=2) 1 (by dsimp only [bO];decide +kernel)) gY))) (DR (i8.pt (qA (cB lQ (aL (uv 1) aK) dR) (rN (cB (xN eQ) (aL (uv 1) aK) (sF eS)))))) (bC (aA (uv 0) (aA (uv 1) aB))))))) ?_
 rintro us M Q ⟨p,rfl,hd,q⟩
 refine ⟨rfl,?_⟩
 have hsp:(cI p []).map (·.1)=p.places:=by rw [lO];simp
 have hpl:p.places.length<=64:=by
  have h1:=places_len p
  have h2:2 ^ p.dep<=2 ^ 6:=Nat.pow_le_pow_right (by decide) hd
  omega
 have hsl:(cI p []).length=p.places.length:=by rw [<- hsp,List.length_map]
 dsimp! only [bJ,fJ]
 refine cO (S:=⟨none,p.places.map cG⟩) (M1:=M) ((cI p []).map bT) (fun R r=>⟨p,rfl,hd,by decide,r⟩) (by simp [hsl]) (small (by show (p.places.map cG).length<=_;rw [List.length_map];omega)) (fun a e=>by cases e) ?_ ?_
 ·intro j x y hx hy M' _ R r'
  have hx':(p.places.map cG)[j]?=some x:=hx
  rw [<- hsp,List.map_map,List.getElem?_map] at hx'
  rw [List.getElem?_map] at hy
  cases hj:(cI p [])[j]? with
  | none=>rw [hj] at hy;cases hy
  | some e =>
   rw [hj] at hx' hy
   cases hx'
   cases hy
   obtain ⟨s,h1,h2⟩:=rV p [] e (List.mem_of_getElem? hj)
   rw [List.nil_append] at h1
   dsimp! only [bJ,fJ]
   refine ⟨p.toU,e.2.toU,e.1,rfl,by rw [h1];exact h2,?_⟩
   dsimp! only [bJ,fJ]
   exact r'
 ·dsimp! only [bJ,fJ]
  refine sY (S:=⟨none,(cI p []).map bT⟩) (M1:=M) fU (fun R r=>r) (small (by show ((cI p []).map bT).length<=_;rw [List.length_map];omega)) (fun a e=>by cases e) ?_ ?_
  ·intro x hx M' _ R r
   obtain ⟨e,he,rfl⟩:=List.mem_map.mp hx
   rw [Ho] at r
   obtain ⟨pl,pt⟩:=e
   cases pt with
   | hole c=>dsimp! only [bT,Pt.toU,Pt.leafy,kB,Pt.holes,h7,gZ,g6,g9,hZ,hC,hJ,bJ,fJ] at r ⊢;exact r
   | any=>dsimp! only [bT,Pt.toU,Pt.leafy,kB,Pt.holes,h7,gZ,g6,g9,hZ,hC,hJ,F6,Bool.and_true,bJ,fJ] at r ⊢;exact r
   | fr l h=>dsimp! only [bT,Pt.toU,Pt.leafy,kB,Pt.holes,h7,gZ,g6,g9,hZ,hC,hJ,B0,Bool.and_true,bJ,fJ] at r ⊢;exact r
   | turn a=>dsimp! only [bT,Pt.toU,Pt.leafy,h7,gZ,g6,g9,hZ,hC,hJ,u3,Bool.false_and,bJ,fJ] at r ⊢;exact r
   | two o a b=>dsimp! only [bT,Pt.toU,Pt.leafy,h7,gZ,g6,g9,hZ,hC,hJ,t8,Bool.false_and,bJ,fJ] at r ⊢;exact r
  ·rw [show (Src.mk none ((cI p []).map bT)).xs=(cI p []).map bT from rfl,Pe,qI]
   simp only [j2]
   exact aN q
theorem Km (bs:List U):pS (bs.map fun _=>U.bl true)=some (bs.map fun _=>true):=by
 induction bs with
 | nil=>rfl
 | cons a r ih=>simp only [List.map_cons,pS,ih];rfl
theorem all_true (bs:List U):((bs.map fun _=>true).all fun b=>b)=true:=by
 induction bs with
 | nil=>rfl
 | cons a r ih=>rw [List.map_cons,List.all_cons,ih];rfl
def xO:bF:=fun us M Q=>∃ (p:Pt) (bs:List U),us=[p.toU,.tup bs]/\p.holes=0/\p.dep<=6/\gD p.ends bs/\bs.length<=1000/\Q (.bl true) M
theorem B1 (F:cL K "are_borne" "are_borne" jY f fd) (hm:mg "are_borne"=some (.ref f)) (aO:mg "isinstance"=none) (bA:mg "tuple"=none) (bU:mg "len"=none) (o4:mg "all"=none) (kY:mg "zip"=none) (JV:Callee P w K mg base 8 "leaves" Cf []) (NU:Callee P w K mg base 2 "fits" DK []):Callee P w K mg base 10 "are_borne" xO []:=by
 refine bN F hm uM (oP fun _ _ _ _ _ _ _ _=>rfl) (aE (vD 2 uM.nd false ["place","leaf"] 2 [] (dO (aP JV (aA (uv 0) aB))) (iX (n:=2) (bH (aY (k:=2) 0 (by dsimp only [bO];decide +kernel)) (bH (aY (k:=2) 1 (by dsimp only [bO];decide +kernel)) gY))) gH (uv 1))
 (aE (bS (i8.pt (jE (fF (dQ (cA fM aO (aA (uv 1) (aA (eK (n:="tuple") bA) aB))))) (iU (cB lQ (cA iJ bU (aA (uv 1) aB)) (cA iJ bU (aA (uv 2) aB))))))
 (aH (aQ mZ))
 bD)
 (aH (aQ (cA EJ o4 (aA (iF false ["leaf","borne"] 2 [] (A7 kY (aA (uv 2) (aA (uv 1) aB))) (iX (n:=2) (bH (aY (k:=2) 0 (by dsimp only [bO];decide +kernel)) (bH (aY (k:=2) 1 (by dsimp only [bO];decide +kernel)) gY))) gH (aP NU (aA (uv 0) (aA (uv 1) aB)))) aB)))))) ?_
 rintro us M Q ⟨p,bs,rfl,h0,hd,hb,hlen,q⟩
 refine ⟨rfl,?_⟩
 obtain ⟨f1,f2⟩:=qE p.ends bs hb (lV p h0)
 have el:(cV p []).map (·.2)=p.ends:=kM p []
 refine aM fun V1 hV1=>?_
 simp! only [cF,hName,aD]
 refine cO (S:=⟨none,(DC p).map bT⟩) (M1:=M) (p.ends.map Pt.toU) (fun R r=>⟨p,rfl,hd,r⟩) ?_ ?_ (fun a e=>by cases e) ?_ ?_
 ·rw [v3 p h0,<- el];simp
 ·show ((DC p).map bT).length<=sizeLine
  rw [v3 p h0,List.length_map,<- List.length_map (f:=(·.2)),el,f1]
  exact small (by omega)
 ·intro i x y hx hy M' hS R r
  have hx':((DC p).map bT)[i]?=some x:=hx
  rw [v3 p h0,List.getElem?_map] at hx'
  cases he:(cV p [])[i]? with
  | none=>rw [he] at hx';cases hx'
  | some e =>
   rw [he] at hx';cases hx'
   rw [<- el,List.map_map,List.getElem?_map,he] at hy
   cases hy
   simp! only [bT,iK,h9,hName,jZ,aD]
   exact r
 ·simp! only [aD]
  subst hV1
  refine aM fun V2 hV2=>?_
  refine bQ fun A B hA hB=>?_
  simp! only [List.length_map,f1,aD]
  subst hB
  simp only [b8]
  subst hV2
  simp! only [cH,aD]
  refine cO (S:=⟨none,dP (p.ends.map Pt.toU) bs⟩) (M1:=M) (bs.map fun _=>U.bl true) (fun R r=>by simp! only [xI,aD];exact r) ?_ ?_ (fun a e=>by cases e) ?_ ?_
  ·rw [o5];simp [f1]
  ·rw [o5];exact small (by simp [f1];omega)
  ·intro i x y hx hy M' hS R r
   obtain ⟨u,v,e1,e2,rfl⟩:=mX hx
   rw [List.getElem?_map] at e1 hy
   rw [e2] at hy
   cases hy
   cases he:p.ends[i]? with
   | none=>rw [he] at e1;cases e1
   | some e =>
    rw [he] at e1
    cases e1
    simp! only [iK,h9,hName,jZ,aD]
    exact ⟨e,v,rfl,f2 i e v he e2,r⟩
  ·simp! only [Km,aD]
   rw [all_true]
   exact aN q
def xS:bF:=fun us M Q=>∃ p:Pt,us=[p.toU,.tup []]/\p.holes=0/\p.dep<=6/\Q (.bl true) M
theorem BC (F:cL K "are_taken" "are_taken" jS f fd) (hm:mg "are_taken"=some (.ref f)) (aO:mg "isinstance"=none) (bA:mg "tuple"=none) (bU:mg "len"=none) (o4:mg "all"=none) (ES:mg "set"=none) (yD:Callee P w K mg base 8 "holes" yL []) (uF:Callee P w K mg base 2 "is_cell" yY []):Callee P w K mg base 10 "are_taken" xS []:=by
 refine bN F hm Bt (oP fun _ _ _ _ _ _ _ _=>rfl) (aE (bS (i8.pt (jE (fF (dQ (cA fM aO (aA (uv 1) (aA (eK (n:="tuple") bA) aB))))) (iU (cB lQ (cA iJ bU (aA (uv 1) aB)) (cA iJ bU (aA (aP yD (aA (uv 0) aB)) aB))))))
 (aH (aQ mZ))
 bD)
 (aH (aQ (j8 (cA EJ o4 (aA (iF false ["cell"] 1 [] (dO (uv 1)) (aY (k:=1) 0 (by dsimp only [bO];decide +kernel)) gH (aP uF (aA (uv 0) aB))) aB)) (kF (p9 eB (E3 bU ES (aA (uv 1) aB)) (cA iJ bU (aA (uv 1) aB)))))))) ?_
 rintro us M Q ⟨p,rfl,h0,hd,q⟩
 refine ⟨rfl,?_⟩
 refine aM fun V1 hV1=>?_
 refine bQ fun A B hA hB=>?_
 simp! only [aD]
 refine ⟨p,rfl,hd,?_⟩
 rw [AY p h0]
 simp! only [aD]
 subst hB
 simp only [b8]
 subst hV1
 simp! only [cH,aD]
 refine cO (S:=⟨none,[]⟩) (M1:=M) [] (fun R r=>by simp! only [aD];exact r) rfl (Nat.zero_le _) (fun a e=>by cases e) (fun i x y hx=>by cases hx) ?_
 simp! only [pS,List.all_nil,BJ,aD]
 exact ⟨[],rfl,by decide,aN q⟩
def jG (cs:List Str) (tiles:List Tl):U:=.tup [pW cs,.tup (tiles.map Tl.toU)]
def iM (n:Nat) (bs:List U) (c:Nat):U:=.tup [.int (n:Int),.tup bs,.tup [],.int (c:Int)]
structure wW (tiles:List Tl) (n:Nat) (tl:Tl) (bs:List U) (c:Nat):Prop where
 at_:tiles[n]?=some tl
 bare:tl.pt.holes=0
 dep:tl.pt.dep<=6
 ok:tl.pt.ok
 born:gD tl.pt.ends bs
 len:bs.length<=1000
 cell:c < 100
theorem wW.ix {tiles:List Tl} {n:Nat} {tl:Tl} {bs:List U} {c:Nat} (h:wW tiles n tl bs c):dM (tiles.map Tl.toU) (n:Int)=some tl.toU:=kN (by rw [List.getElem?_map,h.at_];rfl)
def D7:bF:=fun us M Q=>∃ (cs:List Str) (tiles:List Tl) (n:Nat) (tl:Tl) (bs:List U) (c:Nat),us=[jG cs tiles,iM n bs c]/\wW tiles n tl bs c/\Q (.bl true) M
theorem Gu (F:cL K "is_row" "is_row" nQ f fd) (hm:mg "is_row"=some (.ref f)) (aO:mg "isinstance"=none) (bA:mg "tuple"=none) (bU:mg "len"=none) (jM:Callee P w K mg base 1 "is_whole" pX []) (uF:Callee P w K mg base 2 "is_cell" yY []) (Cq:Callee P w K mg base 10 "are_borne" xO []) (Ct:Callee P w K mg base 10 "are_taken" xS []):Callee P w K mg base 11 "is_row" D7 []:=by
 refine bN F hm zO (oP fun _ _ _ _ _ _ _ _=>rfl) (aE (bS (i8.pt (jE (fF (dQ (cA fM aO (aA (uv 1) (aA (eK (n:="tuple") bA) aB))))) (iU (cB lQ (cA iJ bU (aA (uv 1) aB)) aK))))
 (aH (aQ mZ))
 bD)
 (aE (bS (i8.pt (jE (fF (dQ (aP jM (aA (aL (uv 1) aK) aB)))) (jE (fF (Lb uJ xP aK (aL (uv 1) aK) (cA iJ bU (aA (aL (uv 0) aK) aB)))) (iU (fF (dQ (aP uF (aA (aL (uv 1) aK) aB))))))))
 (aH (aQ mZ))
 bD)
 (aE (aZ 2 zO.nd (aL (aL (aL (uv 0) aK) (aL (uv 1) aK)) aK))
 (aH (aQ (j8 (aP Cq (aA (uv 2) (aA (aL (uv 1) aK) aB))) (kF (aP Ct (aA (uv 2) (aA (aL (uv 1) aK) aB)))))))))) ?_
 rintro us M Q ⟨cs,tiles,n,tl,bs,c,rfl,hr,q⟩
 refine ⟨rfl,?_⟩
 have hlt:=(List.getElem?_eq_some_iff.mp hr.at_).1
 have hc:=hr.cell
 refine aM fun V1 hV1=>?_
 refine bQ fun A B hA hB=>?_
 simp! only [jG,iM,aD]
 rw [if_neg (by decide)]
 subst hB
 simp only [b8]
 subst hV1
 refine aM fun V2 hV2=>?_
 refine bQ fun A B hA hB=>?_
 simp! only [jG,iM,List.length_map,aD]
 refine ⟨_,rfl,trivial,?_⟩
 simp! only [List.length_map,aD]
 rw [if_pos (decide_eq_true (by omega)),decide_eq_true (show (n:Int) < (tiles.length:Int) by omega),if_neg (by decide)]
 refine ⟨_,rfl,by omega,by omega,?_⟩
 simp! only [aD]
 subst hB
 simp only [b8]
 subst hV2
 refine aM fun V3 hV3=>?_
 simp! only [cF,hName,jG,iM,aD]
 refine ⟨_,hr.ix,?_⟩
 simp! only [Tl.toU,aD]
 subst hV3
 simp! only [cH,iM,aD]
 refine ⟨tl.pt,bs,rfl,hr.bare,hr.dep,hr.born,hr.len,?_⟩
 simp! only [aD]
 exact ⟨tl.pt,rfl,hr.bare,hr.dep,aN q⟩
def zN:bF:=fun us M Q=>∃ (cs:List Str) (tiles:List Tl) (n:Nat) (tl:Tl) (bs:List U) (c:Nat) (d:Addr),us=[jG cs tiles,.ref d,iM n bs c]/\wW tiles n tl bs c/\M d=some (.dK [])/\Q (.bl true) M
theorem CZ (F:cL K "can_take" "can_take" kW f fd) (hm:mg "can_take"=some (.ref f)) (kY:mg "zip"=none) (yD:Callee P w K mg base 8 "holes" yL []):Callee P w K mg base 9 "can_take" zN []:=by
 refine bN F hm rJ (Ah fun _ _ _ _ _ _ _ _ _=>rfl) (aE (i7 (A7 kY (aA (aP yD (aA (aL (aL (aL (uv 0) aK) (aL (uv 2) aK)) aK) aB)) (aA (aL (uv 2) aK) aB))) (iX (n:=2) (bH (aY (k:=1000) 3 rJ.nd) (bH (aY (k:=1000) 4 rJ.nd) gY)))
 (aH (bS (i8.pt (jE (cB (Cc false AV) (uv 4) (uv 1)) (iU (cB lQ (aL (Dp false AV (uv 1) (uv 4)) aK) (aL (uv 3) aK)))))
 (aH (aQ mZ))
 bD)))
 (aH (aQ (QH (p9 (Cc false AV) (aL (uv 2) aK) (uv 1)) (kF (p9 Jn (aL (uv 2) aK) (aL (uv 2) aK))))))) ?_
 rintro us M Q ⟨cs,tiles,n,tl,bs,c,d,rfl,hr,hd,q⟩
 refine ⟨rfl,?_⟩
 refine aM fun V1 hV1=>?_
 refine gE (S:=⟨none,[]⟩) (M1:=M) (fun R r=>?_) (fun i τ M'=>τ=[some (jG cs tiles),some (.ref d),some (iM n bs c),none,none]/\M'=M) ⟨rfl,rfl⟩ (fun _ _ _ _ _ e=>by cases e) (fun i x τ M' e=>by cases e) ?_
 ·simp! only [xI,jG,iM,aD]
  refine ⟨_,hr.ix,?_⟩
  simp! only [Tl.toU,aD]
  refine ⟨tl.pt,rfl,hr.dep,?_⟩
  rw [AY _ hr.bare]
  exact r
 ·rintro τ M' ⟨rfl,rfl⟩
  show V1 _ _
  subst hV1
  have e:o8 false M' (.ref d) (.int (c:Int))=some none:=by
   simp only [o8,yA,hd,sS];rfl
  simp! only [cH,iM,Ed,e,Option.isSome_none,aD]
  exact aN q
theorem HA {α:Type} {l:List α} {a:α}:(l++[a]).getLast?=some a:=by simp
theorem IC {α:Type} {l:List α} {a:α}:(l++[a]).dropLast=l:=by simp
def Dm:bF:=fun us M Q=>∃ (p:Pt) (r:Tr) (v:U) (b t:Addr) (rs:List U),us=[p.toU,.ref b,.ref t]/\p.holes=0/\p.leafy=true/\gB p r=true/\bZ p r=[v]/\M b=some (.lst (rs++[v]))/\Q r.toU (mup M b (.lst rs))
theorem yC (F:cL K "filled_leaf" "filled_leaf" iE f fd) (hm:mg "filled_leaf"=some (.ref f)):Callee P w K mg base 1 "filled_leaf" Dm []:=by
 refine bN F hm yE (Ah fun _ _ _ _ _ _ _ _ _=>rfl) (aE (bS (cB eB (aL (uv 0) aK) dR)
 (aH (aQ (rK (uv 2))))
 bD)
 (aH (aQ (bC (aA (K3 (cB eB (aL (uv 0) aK) dR) dR dR) (aA (rK (uv 1)) aB)))))) ?_
 rintro us M Q ⟨p,r,v,b,t,rs,rfl,h0,hl,hr,hb,hM,q⟩
 refine ⟨rfl,?_⟩
 refine aM fun V1 hV1=>?_
 refine bQ fun A B hA hB=>?_
 cases p with
 | hole c=>cases h0
 | turn a=>cases hl
 | two o a b=>cases hl
 | any =>
  cases r <;> first | cases hr | skip
  cases hb
  simp! only [Pt.toU,show decide (Str.ofString "any"=Str.ofString "at")=false by decide +kernel,aD]
  subst hB
  simp only [b8]
  subst hV1
  simp! only [cH,Pt.toU,hM,HA,IC,aD]
  exact ⟨rW hM,aN q⟩
 | fr l h =>
  cases r <;> first | cases hr | skip
  cases hb
  simp! only [Pt.toU,show decide (Str.ofString "from"=Str.ofString "at")=false by decide +kernel,aD]
  subst hB
  simp only [b8]
  subst hV1
  simp! only [cH,Pt.toU,show decide (Str.ofString "from"=Str.ofString "any")=false by decide +kernel,hM,HA,IC,aD]
  exact ⟨rW hM,aN q⟩
theorem Mf {M:aF} {a:Addr} {o:MO} (h:M a=some o):mup M a o=M:=by
 funext b
 unfold mup
 split
 ·rename_i e;subst e;exact h.symm
 ·rfl
theorem Jm {M:aF} {b D:Addr} {x y z u:MO} (h:b≠D):mup (mup (mup (mup M b x) D y) b z) D u=mup (mup M b z) D u:=by
 funext c
 unfold mup
 by_cases h1:c=D <;> by_cases h2:c=b <;> simp [h1,h2]
def P0 (b:Addr) (s:bF):Prop:=∀ (p:Pt) (r:Tr) (v:U) (rs:List U) (M':aF) (Q':UK),p.holes=0->p.leafy=true->gB p r=true->bZ p r=[v]->M' b=some (.lst (rs++[v]))->Q' r.toU (mup M' b (.lst rs))->s [p.toU] M' Q'
def QR (s:bF):Prop:=∀ (z:Str) (us:List U) (M':aF) (Q':UK),us.length<=10->Q' (.tup (.str z :: us)) M'->s [.str z,.lst us] M' Q'
def pD (n:Nat) (fl:Addr) (s:bF) (fs:Addr) (s':bF):bF:=fun us M Q=>∃ (p:Pt) (r:Tr) (b:Addr) (rs:List U),us=[p.toU,.ref fl,.ref fs]/\p.holes=0/\p.dep<=n/\gB p r=true/\M b=some (.lst (rs++(bZ p r).reverse))/\P0 b s/\QR s'/\Q r.toU (mup M b (.lst rs))
theorem Ko {n:Nat} {fs:Addr} {s s':bF} (F:cL K "reckoned" "reckoned" jA f fd) (hm:mg "reckoned"=some (.ref f)) (eQ:mK P w K d cE) (eS:mg "SIGNS"=some (.ref d)) (A_of_leaf:d9 P w K mg base 2 fl s) (A_of_sign:d9 P w K mg base 2 fs s') (eI:Callee P w K mg base 1 "parts_of" jC []) (tL:Callee P w K mg base (n + 3) "reckoned" (pD n fl s fs s') []):Callee P w K mg base (n + 4) "reckoned" (pD (n + 1) fl s fs s') []:=by
 refine bN F hm Dc (Ah fun _ _ _ _ _ _ _ _ _=>rfl) (aE (bS (cB (xN eQ) (aL (uv 0) aK) (sF eS))
 (aH (aQ (wH 1 A_of_leaf (aA (uv 0) aB))))
 bD)
 (aH (aQ (wH 2 A_of_sign (aA (aL (uv 0) aK) (aA (iF false ["part","of_leaf","of_sign"] 1 [1,2] (dO (aP eI (aA (uv 0) aB))) (aY (k:=1) 0 (by dsimp only [bO];decide +kernel)) gH (aP tL (aA (uv 0) (aA (uv 1) (aA (uv 2) aB))))) aB)))))) ?_
 rintro us M Q ⟨p,r,b,rs,rfl,h0,hd,hr,hM,hL,hS,q⟩
 refine ⟨rfl,?_⟩
 have hc:∀ (z:Str) (pp:List Pt) (rr:List Tr) (stk:Nat->List U),(bV cE z).isSome=true->p.toU=.tup (.str z :: pp.map Pt.toU)->pp.length<=2->pp.length=rr.length->(∀ (i:Nat) a r,pp[i]?=some a->rr[i]?=some r->a.holes=0/\a.dep<=n/\gB a r=true/\stk i=stk (i + 1)++(bZ a r).reverse)->M b=some (.lst (stk 0)) ->
   ∀ R:UK,R (.lst (rr.map Tr.toU)) (mup M b (.lst (stk pp.length)))->sX false 1 [1,2] (kQ (kS jC [] (gO (fK 0) kH))) (hName 0) (fun x M Q=>Q true M) (kS (pD n fl s fs s') [] (gO (fK 0) (gO (fK 1) (gO (fK 2) kH)))) [some p.toU,some (U.ref fl),some (U.ref fs)] M R:=by
  intro z pp rr stk hz e h2 hl hp hb R q
  have hw:∀ R:Src->aF->Prop,R ⟨none,pp.map Pt.toU⟩ M->kQ (kS jC [] (gO (fK 0) kH)) [some p.toU,some (U.ref fl),some (U.ref fs)] M R:=fun R r=>by
   simp! only [e,aD]
   exact ⟨z,_,true,rfl,hz,by rw [List.length_map];omega,r⟩
  refine hw _ ⟨small (by rw [List.length_map];omega),fun D hD=>?_⟩
  have hbD:b≠D:=fun z=>by rw [z,hD] at hb;cases hb
  refine ⟨fun i ys M'=>ys=(rr.take i).map Tr.toU/\M'=mup (mup M b (.lst (stk i))) D (.lst ys)/\i<=pp.length,⟨rfl,by rw [Mf hb],Nat.zero_le _⟩,?_,?_,?_⟩
  ·rintro i ys M' ⟨rfl,rfl,hi⟩
   exact ⟨fun a e=>(by cases e),aS,by rw [List.length_map,List.length_take];omega⟩
  ·rintro i x ys M' hx ⟨rfl,rfl,hi⟩
   have hx':(pp.map Pt.toU)[i]?=some x:=hx
   rw [List.getElem?_map] at hx'
   cases ha:pp[i]? with
   | none=>rw [ha] at hx';cases hx'
   | some a =>
    rw [ha] at hx'
    cases hx'
    have hlt:=(List.getElem?_eq_some_iff.mp ha).1
    have hr':rr[i]?=some rr[i]:=List.getElem?_eq_getElem (by omega)
    obtain ⟨a1,a2,a3,a4⟩:=hp i a _ ha hr'
    simp! only [hName,aD]
    refine ⟨a,rr[i],b,stk (i + 1),rfl,a1,a2,a3,?_,hL,hS,?_,?_,?_,?_⟩
    ·rw [aT hbD,aS,a4]
    ·rw [aT hbD.symm,aS]
    ·rw [List.take_add_one,hr',List.map_append];rfl
    ·rw [Jm hbD]
    ·omega
  ·rintro ys M' ⟨rfl,rfl,hi⟩
   have e2:((⟨none,pp.map Pt.toU⟩:Src).xs).length=pp.length:=by simp
   rw [e2]
   refine ⟨mup M b (.lst (stk pp.length)),(Sub.refl _).mup (by rw [aT hbD.symm];exact hD),by rw [aT hbD.symm];exact hD,?_⟩
   rw [List.take_of_length_le (by omega)]
   exact q
 refine aM fun V1 hV1=>?_
 refine bQ fun A B hA hB=>?_
 cases p with
 | hole c=>cases h0
 | any =>
  simp! only [Pt.toU,bP,show (bV cE (Str.ofString "any")).isSome=false by kernel_rfl,aD]
  subst hA
  cases r <;> first | cases hr | skip
  simp! only [cH,aD]
  exact hL .any _ _ rs M _ rfl rfl rfl rfl hM (aN q)
 | fr l h =>
  simp! only [Pt.toU,bP,show (bV cE (Str.ofString "from")).isSome=false by kernel_rfl,aD]
  subst hA
  cases r <;> first | cases hr | skip
  simp! only [cH,aD]
  exact hL (.fr l h) _ _ rs M _ rfl rfl hr rfl hM (aN q)
 | turn a =>
  simp! only [Pt.toU,bP,show (bV cE (Str.ofString "turn")).isSome=true by kernel_rfl,aD]
  subst hB
  cases r <;> first | cases hr | skip
  rename_i ra
  simp only [b8]
  subst hV1
  simp only [Pt.dep] at hd
  simp! only [cH,Pt.toU,aD]
  refine hc (Str.ofString "turn") [a] [ra] (fun i=>if i=0 then rs++(bZ a ra).reverse else rs) (by kernel_rfl) rfl (by simp) rfl (fun i x y e1 e2=>?_) hM _ ?_
  ·cases i with
   | zero=>cases e1;cases e2;exact ⟨h0,by omega,hr,rfl⟩
   | succ i=>cases e1
  ·exact hS _ _ _ _ (by simp) (aN q)
 | two o a c =>
  have ho:(bV cE o.word).isSome=true:=by cases o <;> kernel_rfl
  simp! only [Pt.toU,bP,ho,aD]
  subst hB
  cases r <;> first | cases hr | skip
  rename_i o' ra rc
  simp only [gB,Bool.and_eq_true,decide_eq_true_eq] at hr
  obtain ⟨rfl,hr1,hr2⟩:=hr
  simp only [b8]
  subst hV1
  simp only [Pt.dep,Pt.holes] at hd h0
  simp! only [cH,Pt.toU,aD]
  refine hc o.word [a,c] [ra,rc] (fun i=>if i=0 then rs++(bZ c rc).reverse++(bZ a ra).reverse else if i=1 then rs++(bZ c rc).reverse else rs) ho rfl (by simp) rfl (fun i x y e1 e2=>?_) (by rw [hM];simp [bZ]) _ ?_
  ·cases i with
   | zero=>cases e1;cases e2;exact ⟨by omega,by omega,hr1,rfl⟩
   | succ i =>
    cases i with
    | zero=>cases e1;cases e2;exact ⟨by omega,by omega,hr2,rfl⟩
    | succ i=>cases e1
  ·exact hS _ _ _ _ (by simp) (aN q)
theorem Aa {fs:Addr} {s s':bF} (F:cL K "reckoned" "reckoned" jA f fd) (hm:mg "reckoned"=some (.ref f)) (eQ:mK P w K d cE) (eS:mg "SIGNS"=some (.ref d)) (A_of_leaf:d9 P w K mg base 2 fl s) (A_of_sign:d9 P w K mg base 2 fs s') (eI:Callee P w K mg base 1 "parts_of" jC []):∀ n,Callee P w K mg base (n + 3) "reckoned" (pD n fl s fs s') []
 | 0=>by
  have no:∀ us M Q,¬ pD 0 fl s fs s' us M Q:=fun us M Q h=>by
   obtain ⟨p,_,_,_,_,_,h,_⟩:=h
   have:=pI p
   omega
  refine ⟨f,fd,["shape","of_leaf","of_sign"],[],[],⟨fun vs H Q E h=>?_,fun A outer s H args us vs Q E _ _ _ _ h=>?_⟩,hm,F.kp,F.binds (Ah fun _ _ _ _ _ _ _ _ _=>rfl),.nil,fun H M=>.nil⟩
  ·obtain ⟨us,M,Q',_,_,h,_⟩:=h;exact absurd h (no us M Q')
  ·obtain ⟨us,M,Q',_,_,h,_⟩:=h;exact absurd h (no us M Q')
 | n + 1=>Ko F hm eQ eS A_of_leaf A_of_sign eI (Aa F hm eQ eS A_of_leaf A_of_sign eI n)
def QF:Str:=Str.ofString "filled"++Str.ofString ".<locals>."++Str.ofString "<lambda>"
def Bo (Pt0:Addr):bF:=fun us M Q=>∃ (p:Pt) (r:Tr),us=[p.toU,.tup (bZ p r),.lst []]/\p.holes=0/\p.dep<=6/\gB p r=true/\(bZ p r).length<=1000/\M Pt0=some (.tbl QF)/\Q r.toU M
theorem G0 {c0 Pt0 frk:Addr} (F:cL K "filled" "filled" jF f fd) (hfd:fd.code=.ref c0) (hm:mg "filled"=some (.ref f)) (hK:PySem.W.codeHdIn K c0 Pt0=true) (hB:iO base mg) (d5:mg "list"=none) (o3:mg "reversed"=none) (bA:mg "tuple"=none) (oV:mg "reckoned"=some (.ref frk)) (k_reckoned:PySem.W.keepIn K (.ref frk)=true)
  (tL:∀ (base:Heap) (fl:Addr) (s:bF) (fl':Addr) (s':bF),iO base mg->d9 P w K mg base 2 fl s->d9 P w K mg base 2 fl' s'->Callee P w K mg base 9 "reckoned" (pD 6 fl s fl' s') []) (CL_filled_leaf:∀ base,iO base mg->Callee P w K mg base 1 "filled_leaf" Dm []):Callee P w K mg base 10 "filled" (Bo Pt0) []:=by
 refine Et F hfd hm uD (Ah fun _ _ _ _ _ _ _ _ _=>rfl) (fun us M Q h=>by obtain ⟨_,_,rfl,_⟩:=h;rfl) (aE (aZ 3 uD.nd (Ee (own:=true) d5 o3 (aA (uv 1) aB)))
 (aE (aZ 4 uD.nd (Fd (own:=true) d5 o3 (aA (uv 2) aB)))
 (aH (aQ (LL (P:=Pt0) (q:=QF) 1 ["leaf","borne_left","trees_left"] ["leaf"] [3,4] ["word","parts"] ["word","parts"] [] oV k_reckoned tL hB (LP (uv 0) (Hc (P:=Pt0) (q:=QF) hK hB (Hc (P:=Pt0) (q:=QF) hK hB Og))) (fun base hBm=>(aP (CL_filled_leaf base hBm) (aA (uv 0) (aA (uv 1) (aA (uv 2) aB))) (hj:=by dsimp only [F1];omega))) (fun base hBm=>(dF (own:=false) (bC (aA (uv 0) aB)) (qT sH bA (aA (uv 1) aB))))))))) ?_
 rintro us M Q ⟨p,r,rfl,h0,hd,hr,hlen,hP,q⟩
 refine aM fun V1 hV1=>?_
 simp! only [cF,hName,wG,aD]
 intro b hb
 subst hV1
 refine aM fun V2 hV2=>?_
 simp! only [cF,hName,bE,aD]
 intro t ht
 subst hV2
 simp! only [cH,sJ,Ba,Fv,Ep,K0,aD]
 have hPb:Pt0≠b:=fun z=>by rw [z,hb] at hP;cases hP
 have htb:t≠b:=fun z=>by rw [z,aS] at ht;cases ht
 have hMt:M t=none:=by rw [aT htb] at ht;exact ht
 have hPt:Pt0≠t:=fun z=>by rw [z,hMt] at hP;cases hP
 have hM1:mup (mup M b (MO.lst (bZ p r).reverse)) t (MO.lst [].reverse) Pt0=some (MO.tbl QF):=by rw [aT hPt,aT hPb];exact hP
 refine ⟨hM1,fun fl=>⟨hM1,fun fs=>⟨hM1,fun u hu=>?_,fun u hu=>?_,fun hno=>⟨p,r,b,[],rfl,h0,hd,hr,?_,?_,?_,fun b'=>?_,?_⟩⟩⟩⟩
 ·have hu':some u∈[some (U.ref b),some (U.ref t)]:=hu
  rcases List.mem_cons.mp hu' with e | e
  ·cases e;trivial
  ·cases List.mem_singleton.mp e;trivial
 ·cases hu
 ·rw [lY hPb.symm,aT htb.symm,aS];rfl
 ·intro p0 r0 v rs M' Q' g0 g1 g2 g3 g4 g5
  refine ⟨rfl,?_⟩
  simp! only [oK,aD]
  exact ⟨p0,r0,v,b,t,rs,rfl,g0,g1,g2,g3,g4,g5⟩
 ·intro z us M' Q' hl hq
  refine ⟨rfl,?_⟩
  simp! only [oK,aD]
  exact ⟨small (by omega),hq⟩
 ·by_cases e:b'=b
  ·rw [e,aS];exact fun z=>by cases z
  ·rw [aT e];exact hno b'
 ·refine ⟨_,M,fun a o ha=>?_,.inl rfl,q⟩
  by_cases e:a=Pt0
  ·subst e;rw [aS,<- hP,ha]
  ·have e1:a≠b:=fun z=>by rw [z,hb] at ha;cases ha
   have e2:a≠t:=fun z=>by rw [z,hMt] at ha;cases ha
   rw [aT e,aT e1,lY e,aT e2,aT e1];exact ha
theorem AW {τ:SU} {M M1:aF} {i:Nat} {a:Addr} {u:U} (hs:Sub M M1) (hr:∀ K H,RelM K H M1->aR H M1 H M->aJ K H M u (.ref a)) (ht:τ[i]?=some (some (.ref a))):U2.Cv τ M1 (τ.set i (some u)) M:=by
 intro K H σ rm rs
 have st:aR H M1 H M:=hs.less
 refine ⟨st,rm.sub hs,?_⟩
 obtain ⟨v,hv,rv⟩:=rs.2 i _ ht
 cases rv.ref
 have e:σ.set i (some (.ref a))=σ:=by
  refine List.ext_getElem? fun j=>?_
  rw [List.getElem?_set]
  split
  ·rename_i h;subst h
   rw [hv]
   split
   ·rfl
   ·rename_i h2
    have:=(List.getElem?_eq_some_iff.mp hv).1
    exact absurd this h2
  ·rfl
 have r:=(rs.stp st).set (i:=i) (hr K H rm st)
 rw [e] at r
 exact r
def BA (tl:Tl) (r:Tr) (n:Nat):U:=.tup [.str tl.cls,r.toU,.lst [.int (n:Int)]]
structure Got (tiles:List Tl) (n:Nat) (tl:Tl) (c:Nat) (r:Tr):Prop where
 row:wW tiles n tl (bZ tl.pt r) c
 lie:gB tl.pt r=true
theorem Got.good {tiles:List Tl} {n:Nat} {tl:Tl} {c:Nat} {r:Tr} (h:Got tiles n tl c r):r.good/\r.size<=200/\r.dep<=40:=by
 obtain ⟨h1,h2,h3⟩:=rX tl.pt r h.row.ok h.row.bare h.lie (pQ _ _ h.row.born)
 have hd:=h.row.dep
 have:2 ^ tl.pt.dep<=2 ^ 6:=Nat.pow_le_pow_right (by decide) hd
 exact ⟨h1,by omega,by omega⟩
def Du (Pt0:Addr):bF:=fun us M Q=>∃ (cs:List Str) (tiles:List Tl) (n:Nat) (tl:Tl) (c k:Nat) (r:Tr) (d:Addr),us=[jG cs tiles,.ref d,.int (k:Int),iM n (bZ tl.pt r) c]/\Got tiles n tl c r/\M d=some (.dK [])/\M Pt0=some (.tbl QF)/\Q .non (mup M d (.dK [(.inl (c:Int),BA tl r n)]))
theorem Iv {Pt0:Addr} (F:cL K "do_row" "do_row" nE f fd) (hm:mg "do_row"=some (.ref f)) (Ky:Callee P w K mg base 11 "is_row" D7 []) (F7:Callee P w K mg base 9 "can_take" zN []) (IM:Callee P w K mg base 10 "filled" (Bo Pt0) []) (Im:Callee P w K mg base 5 "is_tree" Bv []):Callee P w K mg base 12 "do_row" (Du Pt0) []:=by
 refine bN F hm mE (Q4 fun _ _ _ _ _ _ _ _ _ _=>rfl) (aE (bS (i8.pt (jE (fF (dQ (aP Ky (aA (uv 0) (aA (uv 3) aB))))) (iU (fF (dQ (aP F7 (aA (uv 0) (aA (uv 1) (aA (uv 3) aB)))))))))
 (aH B8)
 bD)
 (aE (aZ 4 mE.nd (aL (aL (uv 0) aK) (aL (uv 3) aK)))
 (aE (vD 5 mE.nd false ["cell","cells"] 1 [1] (dO (aL (uv 3) aK)) (aY (k:=1) 0 (by dsimp only [bO];decide +kernel)) gH Qp)
 (aE (aZ 6 mE.nd (aP IM (aA (aL (uv 4) aK) (aA (aL (uv 3) aK) (aA (iF false ["had"] 1 [] (dO (uv 5)) (aY (k:=1) 0 (by dsimp only [bO];decide +kernel)) gH (aL (uv 0) aK)) aB)))))
 (aE (bS (fF (dQ (aP Im (aA (uv 6) aB))))
 (aH B8)
 bD)
 (aE (aZ 7 mE.nd (cU (own:=true) (aA (aL (uv 3) aK) aB)))
 (aE (Le (i7 (dO (uv 5)) (aY (k:=1000) 8 mE.nd)
 (aH (gX (uW (uv 7) (aA (aL (uv 8) aK) aB))))))
 (aH (LS false AV (bC (aA (aL (uv 4) aK) (aA (uv 6) (aA (uv 7) aB)))) (uv 1) (aL (uv 3) aK)))))))))) ?_
 rintro us M Q ⟨cs,tiles,n,tl,c,k,r,d,rfl,hg,hd,hP,q⟩
 refine ⟨rfl,?_⟩
 obtain ⟨g1,g2,g3⟩:=hg.good
 have hix:=hg.row.ix
 refine aM fun V1 hV1=>?_
 refine bQ fun A B hA hB=>?_
 simp! only [aD]
 refine ⟨cs,tiles,n,tl,_,c,rfl,hg.row,?_⟩
 simp! only [aD]
 refine ⟨cs,tiles,n,tl,_,c,d,rfl,hg.row,hd,?_⟩
 simp! only [aD]
 subst hB
 simp only [b8]
 subst hV1
 refine aM fun V2 hV2=>?_
 simp! only [cF,hName,jG,iM,aD]
 refine ⟨_,hix,?_⟩
 subst hV2
 refine aM fun V3 hV3=>?_
 simp! only [cF,hName,aD]
 refine cO (S:=⟨none,[]⟩) (M1:=M) [] (fun R r=>by simp! only [iM,aD];exact r) rfl (Nat.zero_le _) (fun a e=>by cases e) (fun i x y hx=>by cases hx) ?_
 simp! only [aD]
 subst hV3
 refine aM fun V4 hV4=>?_
 simp! only [cF,hName,Tl.toU,iM,aD]
 refine cO (S:=⟨none,[]⟩) (M1:=M) [] (fun R r=>by simp! only [aD];exact r) rfl (Nat.zero_le _) (fun a e=>by cases e) (fun i x y hx=>by cases hx) ?_
 simp! only [aD]
 refine ⟨tl.pt,r,rfl,hg.row.bare,hg.row.dep,hg.lie,hg.row.len,hP,?_⟩
 subst hV4
 refine aM fun V5 hV5=>?_
 refine bQ fun A B hA hB=>?_
 simp! only [aD]
 refine ⟨gT r,by rw [ER],AD r g1,?_⟩
 rw [Mr g2 g3]
 simp! only [aD]
 subst hB
 simp only [b8]
 subst hV5
 refine aM fun V6 hV6=>?_
 simp! only [cF,hName,iM,aD]
 intro p hp
 have hpd:d≠p:=fun z=>by rw [z,hp] at hd;cases hd
 subst hV6
 refine aM fun V7 hV7=>?_
 show Bc _ _ _ _
 unfold Bc
 refine gE (S:=⟨none,[]⟩) (M1:=mup M p (.lst [.int (n:Int)])) (fun R r=>by simp! only [aD];exact r) (fun i τ M'=>τ=[some (jG cs tiles),some (.ref d),some (.int (k:Int)),some (iM n (bZ tl.pt r) c),some tl.toU,some (.lst []),some r.toU,some (.ref p),none]/\M'=mup M p (.lst [.int (n:Int)])) ⟨rfl,rfl⟩ (fun _ _ _ _ _ e=>by cases e) (fun i x τ M' e=>by cases e) ?_
 rintro τ M' ⟨rfl,rfl⟩
 refine ⟨_,M,AW (i:=7) (a:=p) (u:=.lst [.int (n:Int)]) ((Sub.refl M).mup hp) (fun K H rm st=>Ms rm aS hp st) rfl,?_⟩
 show V7 _ _
 subst hV7
 simp! only [Lx,Tl.toU,iM,hd,sS,aD]
 exact ⟨by decide,aN q⟩
theorem j1:aX ["table","rows","cells","number","row"] ["table","rows"] (aG gU):=eZ
def vC (tl:Tl) (r:Tr) (n c:Nat):U:=.tup [.int (c:Int),.str tl.cls,r.toU,.lst [.int (n:Int)]]
def y8 (Pt0:Addr):bF:=fun us M Q=>∃ (cs:List Str) (tiles:List Tl),M Pt0=some (.tbl QF)/\((us=[jG cs tiles,.lst []]/\Q (.lst []) M)\/∃ (n:Nat) (tl:Tl) (c:Nat) (r:Tr),us=[jG cs tiles,.lst [iM n (bZ tl.pt r) c]]/\Got tiles n tl c r/\Q (.lst [vC tl r n c]) M)
theorem Kr {Pt0:Addr} (F:cL K "cells_behind" "cells_behind" gU f fd) (hm:mg "cells_behind"=some (.ref f)) (bW:mg "enumerate"=none) (vZ:mg "sorted"=none) (JW:Callee P w K mg base 12 "do_row" (Du Pt0) []):Callee P w K mg base 13 "cells_behind" (y8 Pt0) []:=by
 refine qL F hm j1 (oP fun _ _ _ _ _ _ _ _=>rfl) (fun us M Q h=>by obtain ⟨_,_,_,(⟨rfl,_⟩ | ⟨_,_,_,_,rfl,_⟩)⟩:=h <;> rfl) (aE (aZ 2 j1.nd (LI false))
 (aE (Le (i7 (tV bW (aA (uv 1) aB)) (iX (n:=2) (bH (aY (k:=1000) 3 j1.nd) (bH (aY (k:=1000) 4 j1.nd) gY)))
 (aH (gX (aP JW (aA (uv 0) (aA (uv 2) (aA (uv 3) (aA (uv 4) aB)))))))))
 (aH (aQ (iF false ["cell","cells"] 1 [2] (dO (cA LG vZ (aA (uv 2) aB))) (aY (k:=1) 0 (by dsimp only [bO];decide +kernel)) gH (dF (own:=false) (bC (aA (uv 0) aB)) (Dp false AV (uv 1) (uv 0)))))))) ?_
 rintro us M Q ⟨cs,tiles,hP,h⟩
 have fin:∀ (rows:U) (a b:Option U) (kvs:List (Key × U)) (ns:List Int) (ys:List U) (p:Addr),M p=none->kvs.map (fun e=>[e.1])=ns.map (fun n=>[(Sum.inl n:Key)])->ns.length<=1->ns.length=ys.length->(∀ (i:Nat) n y,ns[i]?=some n->ys[i]?=some y->∃ us,pP kvs (.inl n)=some (.tup us)/\us.length<=10/\y=.tup (.int n :: us))->Q (.lst ys) M ->
   (cH (sX false 1 [2] (kQ (qN (xC false) (gO (fK 2) kH))) (hName 0) (fun x M Q=>Q true M) (fH (mJ false) (pM (gO (fK 0) kH)) (fH (xF false) (fK 1) (fK 0)))) { nx:=fun x M'=>iP Q U.non M',rt:=iP Q }) [some (jG cs tiles),some rows,some (u0 kvs),a,b] M:=by
  intro rows a b kvs ns ys p hp hk h1 hl hy q
  simp! only [cH,aD]
  refine cO (S:=⟨none,ns.map .int⟩) (M1:=M) ys (fun R r=>?_) (by simp [hl]) (by simp;exact small (by omega)) (fun a e=>by cases e) ?_ ?_
  ·simp! only [u0,xC,aD]
   refine ⟨ns,hk,by omega,fun ns' p1 p2=>?_⟩
   have:ns'=ns:=by
    cases ns with
    | nil=>exact List.perm_nil.mp p1
    | cons x l =>
     cases l with
     | nil=>exact List.perm_singleton.mp p1
     | cons y l=>simp at h1
   rw [this]
   exact r
  ·intro i x y hx hy' M' hS R r
   have hx':(ns.map U.int)[i]?=some x:=hx
   rw [List.getElem?_map] at hx'
   cases hn:ns[i]? with
   | none=>rw [hn] at hx';cases hx'
   | some n =>
    rw [hn] at hx'
    cases hx'
    obtain ⟨us,u1,u2,rfl⟩:=hy i n y hn hy'
    have e:o8 false M' (u0 kvs) (.int n)=some (some (.tup us)):=by
     simp only [o8,Kw,sS,u1]
    simp! only [hName,xF,e,aD]
    exact ⟨small (by omega),r⟩
  ·simp! only [aD]
   exact aN q
 refine aM fun V1 hV1=>?_
 rcases h with ⟨rfl,q⟩ | ⟨n,tl,c,r,rfl,hg,q⟩
 ·simp! only [cF,hName,EK,Ph,aD]
  intro p hp
  subst hV1
  refine aM fun V2 hV2=>?_
  show Bc _ _ _ _
  unfold Bc
  refine gE (S:=⟨none,[]⟩) (M1:=mup M p (.dK [])) (fun R r=>by simp! only [U2.numbered,List.zipIdx_nil,aD];exact r) (fun i τ M'=>τ=[some (jG cs tiles),some (.lst []),some (.ref p),none,none]/\M'=mup M p (.dK [])) ⟨rfl,rfl⟩ (fun _ _ _ _ _ e=>by cases e) (fun i x τ M' e=>by cases e) ?_
  rintro τ M' ⟨rfl,rfl⟩
  refine ⟨_,M,AW (i:=2) (a:=p) (u:=u0 []) ((Sub.refl M).mup hp) (fun K H rm st=>Bp rm aS hp st) rfl,?_⟩
  show V2 _ _
  subst hV2
  exact fin _ _ _ [] [] [] p hp rfl (by simp) rfl (fun i n y e=>by cases e) q
 ·simp! only [cF,hName,EK,Ph,aD]
  intro p hp
  have hPp:Pt0≠p:=fun z=>by rw [z,hp] at hP;cases hP
  subst hV1
  refine aM fun V2 hV2=>?_
  show Bc _ _ _ _
  unfold Bc
  refine gE (S:=⟨none,[.tup [.int 0,iM n (bZ tl.pt r) c]]⟩) (M1:=mup M p (.dK [])) (fun R r=>by simp! only [U2.numbered,aD];exact r) (fun i τ M'=>∃ a b,τ=[some (jG cs tiles),some (.lst [iM n (bZ tl.pt r) c]),some (.ref p),a,b]/\M'=mup M p (.dK (if i=0 then [] else [(.inl (c:Int),BA tl r n)]))) ⟨none,none,rfl,rfl⟩ (fun _ _ _ _ _ e=>by cases e) ?_ ?_
  ·rintro i x τ M' hx ⟨a,b,rfl,rfl⟩
   cases i with
   | succ i=>cases hx
   | zero =>
    cases hx
    simp! only [iK,h9,hName,jZ,iR,aD]
    refine ⟨cs,tiles,n,tl,c,0,r,p,rfl,hg,aS,by rw [aT hPp];exact hP,?_⟩
    rw [gM]
    exact ⟨_,_,rfl,rfl⟩
  ·rintro τ M' ⟨a,b,rfl,rfl⟩
   refine ⟨_,M,AW (i:=2) (a:=p) (u:=u0 [(.inl (c:Int),BA tl r n)]) ((Sub.refl M).mup hp) (fun K H rm st=>Bp rm aS hp st) rfl,?_⟩
   show V2 _ _
   subst hV2
   refine fin _ _ _ [(.inl (c:Int),BA tl r n)] [(c:Int)] [vC tl r n c] p hp rfl (by simp) rfl (fun i n' y e1 e2=>?_) q
   cases i with
   | succ i=>cases e1
   | zero =>
    cases e1;cases e2
    exact ⟨_,by simp [pP,BA],by simp,rfl⟩
def vX (Pt0:Addr):bF:=fun us M Q=>∃ (cs:List Str) (tiles:List Tl),M Pt0=some (.tbl QF)/\((us=[jG cs tiles,.lst []]/\Q (.lst []) M)\/∃ (n:Nat) (tl:Tl) (c:Nat) (r:Tr),us=[jG cs tiles,.lst [iM n (bZ tl.pt r) c]]/\Got tiles n tl c r/\Q (.lst [.tup [.int (c:Int),.str tl.cls,r.toU]]) M)
theorem G7 {Pt0:Addr} (F:cL K "behind" "behind" nG f fd) (hm:mg "behind"=some (.ref f)) (nK:Callee P w K mg base 13 "cells_behind" (y8 Pt0) []):Callee P w K mg base 14 "behind" (vX Pt0) []:=by
 refine qL F hm HD (oP fun _ _ _ _ _ _ _ _=>rfl) (fun us M Q h=>by obtain ⟨_,_,_,(⟨rfl,_⟩ | ⟨_,_,_,_,rfl,_⟩)⟩:=h <;> rfl) (aH (aQ (iF false ["cell","cls","tree","word"] 4 [] (dO (aP nK (aA (uv 0) (aA (uv 1) aB)))) (iX (n:=4) (bH (aY (k:=4) 0 (by dsimp only [bO];decide +kernel)) (bH (aY (k:=4) 1 (by dsimp only [bO];decide +kernel)) (bH (aY (k:=4) 2 (by dsimp only [bO];decide +kernel)) (bH (aY (k:=4) 3 (by dsimp only [bO];decide +kernel)) gY))))) gH (bC (aA (uv 0) (aA (uv 1) (aA (uv 2) aB))))))) ?_
 rintro us M Q ⟨cs,tiles,hP,h⟩
 rcases h with ⟨rfl,q⟩ | ⟨n,tl,c,r,rfl,hg,q⟩
 ·simp! only [cH,aD]
  refine cO (S:=⟨none,[]⟩) (M1:=M) [] (fun R r=>by simp! only [aD];exact ⟨cs,tiles,hP,.inl ⟨rfl,r⟩⟩) rfl (Nat.zero_le _) (fun a e=>by cases e) (fun i x y hx=>by cases hx) ?_
  simp! only [aD]
  exact aN q
 ·simp! only [cH,aD]
  refine cO (S:=⟨none,[vC tl r n c]⟩) (M1:=M) [.tup [.int (c:Int),.str tl.cls,r.toU]] (fun R r'=>by simp! only [aD];exact ⟨cs,tiles,hP,.inr ⟨n,tl,c,r,rfl,hg,r'⟩⟩) rfl (small (by simp)) (fun a e=>by cases e) (fun i x y hx hy M' hS R r'=>?_) ?_
  ·cases i with
   | succ i=>cases hx
   | zero =>
    cases hx;cases hy
    simp! only [vC,iK,h9,hName,jZ,aD]
    exact r'
  ·simp! only [aD]
   exact aN q
def yH (Pt0:Addr):bF:=fun us M Q=>∃ (cs:List Str) (tiles:List Tl),M Pt0=some (.tbl QF)/\((us=[jG cs tiles,.lst []]/\Q (.lst []) M)\/∃ (n:Nat) (tl:Tl) (c:Nat) (r:Tr),us=[jG cs tiles,.lst [iM n (bZ tl.pt r) c]]/\Got tiles n tl c r/\Q (.lst [.tup [.int (c:Int),.lst [.int (n:Int)]]]) M)
theorem KY {Pt0:Addr} (F:cL K "cell_words" "cell_words" iV f fd) (hm:mg "cell_words"=some (.ref f)) (nK:Callee P w K mg base 13 "cells_behind" (y8 Pt0) []):Callee P w K mg base 14 "cell_words" (yH Pt0) []:=by
 refine qL F hm Ao (oP fun _ _ _ _ _ _ _ _=>rfl) (fun us M Q h=>by obtain ⟨_,_,_,(⟨rfl,_⟩ | ⟨_,_,_,_,rfl,_⟩)⟩:=h <;> rfl) (aH (aQ (iF false ["cell","cls","tree","word"] 4 [] (dO (aP nK (aA (uv 0) (aA (uv 1) aB)))) (iX (n:=4) (bH (aY (k:=4) 0 (by dsimp only [bO];decide +kernel)) (bH (aY (k:=4) 1 (by dsimp only [bO];decide +kernel)) (bH (aY (k:=4) 2 (by dsimp only [bO];decide +kernel)) (bH (aY (k:=4) 3 (by dsimp only [bO];decide +kernel)) gY))))) gH (bC (aA (uv 0) (aA (uv 3) aB)))))) ?_
 rintro us M Q ⟨cs,tiles,hP,h⟩
 rcases h with ⟨rfl,q⟩ | ⟨n,tl,c,r,rfl,hg,q⟩
 ·simp! only [cH,aD]
  refine cO (S:=⟨none,[]⟩) (M1:=M) [] (fun R r=>by simp! only [aD];exact ⟨cs,tiles,hP,.inl ⟨rfl,r⟩⟩) rfl (Nat.zero_le _) (fun a e=>by cases e) (fun i x y hx=>by cases hx) ?_
  simp! only [aD]
  exact aN q
 ·simp! only [cH,aD]
  refine cO (S:=⟨none,[vC tl r n c]⟩) (M1:=M) [.tup [.int (c:Int),.lst [.int (n:Int)]]] (fun R r'=>by simp! only [aD];exact ⟨cs,tiles,hP,.inr ⟨n,tl,c,r,rfl,hg,r'⟩⟩) rfl (small (by simp)) (fun a e=>by cases e) (fun i x y hx hy M' hS R r'=>?_) ?_
  ·cases i with
   | succ i=>cases hx
   | zero =>
    cases hx;cases hy
    simp! only [vC,iK,h9,hName,jZ,aD]
    exact r'
  ·simp! only [aD]
   exact aN q
def eC:Pt->Pt
 | .hole _=>.any
 | .any=>.any
 | .fr l h=>.fr l h
 | .turn a=>.turn (eC a)
 | .two o a b=>.two o (eC a) (eC b)
theorem mH:∀ p:Pt,(eC p).holes=0
 | .hole _=>rfl
 | .any=>rfl
 | .fr _ _=>rfl
 | .turn a=>mH a
 | .two o a b=>by simp only [eC,Pt.holes,mH a,mH b]
theorem pV:∀ p:Pt,(eC p).dep=p.dep
 | .hole _=>rfl
 | .any=>rfl
 | .fr _ _=>rfl
 | .turn a=>by simp only [eC,Pt.dep,pV a]
 | .two o a b=>by simp only [eC,Pt.dep,pV a,pV b]
theorem sA:∀ p:Pt,p.ok->(eC p).ok
 | .hole _,_=>trivial
 | .any,_=>trivial
 | .fr _ _,h=>h
 | .turn a,h=>sA a h
 | .two o a b,h=>⟨sA a h.1,sA b h.2⟩
theorem J5 {α:Type} (a:α) (l:List α):j7 (a :: l) (some 1) none=l:=by
 unfold j7
 simp only [HT.bM]
 rw [if_neg (by decide)]
 have e1:(1:Int).toNat=1:=rfl
 rw [e1]
 simp
def uU (n:Nat):bF:=fun us M Q=>∃ p:Pt,us=[p.toU]/\p.dep<=n/\Q (eC p).toU M
theorem L4 {n:Nat} (F:cL K "_law_bare" "_law_bare" jD f fd) (hm:mg "_law_bare"=some (.ref f)) (bA:mg "tuple"=none) (oS:Callee P w K mg base (n + 1) "_law_bare" (uU n) []):Callee P w K mg base (n + 2) "_law_bare" (uU (n + 1)) []:=by
 refine bN F hm q8 (oA fun _ _ _ _ _ _ _=>rfl) (aE (bS (cB eB (aL (uv 0) aK) dR)
 (aH (aQ (bC (aA dR aB))))
 bD)
 (aE (bS (cB Jn (aL (uv 0) aK) (bC (aA dR (aA dR aB))))
 (aH (aQ (uv 0)))
 bD)
 (aE (aZ 1 q8.nd (cU (own:=true) (aA (aL (uv 0) aK) aB)))
 (aE (i7 (dO (mV (own:=false) (uv 0) (iT aK) nA)) (aY (k:=1000) 2 q8.nd)
 (aH (gX (iI (uv 1) (aA (aP oS (aA (uv 2) aB)) aB)))))
 (aH (aQ (qT sH bA (aA (uv 1) aB)))))))) ?_
 rintro us M Q ⟨p,rfl,hd,q⟩
 refine ⟨rfl,?_⟩
 have hcase:(∃ c,p=.hole c)\/p=.any\/(∃ l h,p=.fr l h)\/∃ (z:Str) (pp:List Pt),pp.length<=2/\p.toU=.tup (.str z :: pp.map Pt.toU)/\decide (z=Str.ofString "at")=false/\([U.str (Str.ofString "any"),U.str (Str.ofString "from")].any fun u=>B6 u (U.str z))=false/\(∀ a∈pp,a.dep<=n)/\(eC p).toU=.tup (.str z :: pp.map fun a=>(eC a).toU):=by
  cases p with
  | hole c=>exact .inl ⟨c,rfl⟩
  | any=>exact .inr (.inl rfl)
  | fr l h=>exact .inr (.inr (.inl ⟨l,h,rfl⟩))
  | turn a =>
   simp only [Pt.dep] at hd
   exact .inr (.inr (.inr ⟨Str.ofString "turn",[a],by simp,rfl,by decide +kernel,by decide +kernel,fun x hx=>by cases List.mem_singleton.mp hx;omega,rfl⟩))
  | two o a b =>
   simp only [Pt.dep] at hd
   refine .inr (.inr (.inr ⟨o.word,[a,b],by simp,rfl,by cases o <;> decide +kernel,by cases o <;> decide +kernel,fun x hx=>?_,rfl⟩))
   rcases List.mem_cons.mp hx with rfl | hx
   ·omega
   ·cases List.mem_singleton.mp hx;omega
 rcases hcase with ⟨c,rfl⟩ | rfl | ⟨l,h,rfl⟩ | ⟨z,pp,h2,e,ha,hin,hpp,eb⟩
 ·refine aM fun V1 hV1=>?_
  refine bQ fun A B hA hB=>?_
  simp! only [Pt.toU,aD]
  subst hA
  simp! only [cH,aD]
  exact aN q
 ·refine aM fun V1 hV1=>?_
  refine bQ fun A B hA hB=>?_
  simp! only [Pt.toU,show decide (Str.ofString "any"=Str.ofString "at")=false by decide +kernel,aD]
  subst hB
  simp only [b8]
  subst hV1
  refine aM fun V2 hV2=>?_
  refine bQ fun A B hA hB=>?_
  simp! only [Pt.toU,fP,aD]
  refine ⟨rfl,rfl,?_⟩
  rw [if_pos (by decide +kernel)]
  subst hA
  simp! only [cH,aD]
  exact aN q
 ·refine aM fun V1 hV1=>?_
  refine bQ fun A B hA hB=>?_
  simp! only [Pt.toU,show decide (Str.ofString "from"=Str.ofString "at")=false by decide +kernel,aD]
  subst hB
  simp only [b8]
  subst hV1
  refine aM fun V2 hV2=>?_
  refine bQ fun A B hA hB=>?_
  simp! only [Pt.toU,fP,aD]
  refine ⟨rfl,rfl,?_⟩
  rw [if_pos (by decide +kernel)]
  subst hA
  simp! only [cH,aD]
  exact aN q
 ·rw [eb] at q
  refine aM fun V1 hV1=>?_
  refine bQ fun A B hA hB=>?_
  simp! only [e,ha,aD]
  subst hB
  simp only [b8]
  subst hV1
  refine aM fun V2 hV2=>?_
  refine bQ fun A B hA hB=>?_
  simp! only [e,fP,aD]
  refine ⟨rfl,rfl,?_⟩
  rw [hin,if_neg (by decide)]
  subst hB
  simp only [b8]
  subst hV2
  refine aM fun V3 hV3=>?_
  simp! only [cF,hName,e,aD]
  intro w hw
  subst hV3
  refine aM fun V4 hV4=>?_
  refine gE (S:=⟨none,pp.map Pt.toU⟩) (M1:=mup M w (.lst [.str z])) (fun R r=>by simp! only [e,J5,aD];exact r) (fun i τ M'=>∃ a,τ=[some p.toU,some (.ref w),a]/\M'=mup M w (.lst (.str z :: (pp.take i).map fun a=>(eC a).toU))/\i<=pp.length) ⟨none,by rw [e],by simp,Nat.zero_le _⟩ (fun _ _ _ _ _ e=>by cases e) ?_ ?_
  ·rintro i x τ M' hx ⟨a,rfl,rfl,hi⟩
   have hx':(pp.map Pt.toU)[i]?=some x:=hx
   rw [List.getElem?_map] at hx'
   cases hx2:pp[i]? with
   | none=>rw [hx2] at hx';cases hx'
   | some b =>
    rw [hx2] at hx'
    cases hx'
    have hlt:=(List.getElem?_eq_some_iff.mp hx2).1
    simp! only [hName,iR,aD]
    refine ⟨dY,b,rfl,hpp b (List.mem_of_getElem? hx2),?_⟩
    simp only [aS,gM]
    refine ⟨big (by simp only [List.length_cons,List.length_map,List.length_take];omega),_,rfl,?_,by omega⟩
    rw [List.take_add_one,hx2,List.map_append]
    rfl
  ·rintro τ M' ⟨a,rfl,rfl,hi⟩
   show V4 _ _
   subst hV4
   have e3:(Src.mk none (pp.map Pt.toU)).xs.length=pp.length:=by simp
   rw [e3,List.take_of_length_le (Nat.le_refl _)]
   simp! only [cH,aD]
   exact ⟨_,M,(Sub.refl M).mup hw,.inl rfl,q⟩
def DW:Nat->U->Prop
 | 0,_=>False
 | _ + 1,.int _=>True
 | _ + 1,.str _=>True
 | n + 1,.tup us=>us.length<=1000/\∀ u∈us,DW n u
 | n + 1,.lst us=>us.length<=1000/\∀ u∈us,DW n u
 | _,_=>False
def rP (n:Nat):bF:=fun us M Q=>∃ u,us=[u,u]/\DW n u/\Q (.bl true) M
theorem LU {m:Nat} (F:cL K "_law_same" "_law_same" jJ f fd) (hm:mg "_law_same"=some (.ref f)) (aO:mg "isinstance"=none) (bA:mg "tuple"=none) (d5:mg "list"=none) (bU:mg "len"=none) (kY:mg "zip"=none) (jN:mg "bool"=none) (kO:mg "int"=none) (kL:mg "str"=none) (jI:Callee P w K mg base (m + 1) "_law_same" (rP m) []):Callee P w K mg base (m + 2) "_law_same" (rP (m + 1)) []:=by
 refine bN F hm q9 (oP fun _ _ _ _ _ _ _ _=>rfl) (aE (bS (dQ (cA OZ aO (aA (uv 1) (aA (bC (aA (eK (n:="list") d5) (aA (eK (n:="tuple") bA) aB))) aB))))
 (aE (bS (i8.pt (jE (cB lQ (cA fM aO (aA (uv 1) (aA (eK (n:="list") d5) aB))) (cA fM aO (aA (uv 0) (aA (eK (n:="list") d5) aB)))) (iU (cB lQ (cA fM aO (aA (uv 1) (aA (eK (n:="tuple") bA) aB))) (cA fM aO (aA (uv 0) (aA (eK (n:="tuple") bA) aB)))))))
 (aH (aQ mZ))
 bD)
 (aE (bS (cB lQ (cA iJ bU (aA (uv 0) aB)) (cA iJ bU (aA (uv 1) aB)))
 (aH (aQ mZ))
 bD)
 (aE (i7 (P8 (NZ kY (aA (uv 0) (aA (uv 1) aB))) (Jb kY (aA (uv 0) (aA (uv 1) aB)))) (iX (n:=2) (bH (aY (k:=1000) 2 q9.nd) (bH (aY (k:=1000) 3 q9.nd) gY)))
 (aH (bS (fF (dQ (aP jI (aA (uv 2) (aA (uv 3) aB)))))
 (aH (aQ mZ))
 bD)))
 (aH (aQ mZ)))))
 bD)
 (aE (bS (cB Lv (uv 1) Q8)
 (aH (aQ (p9 Lv (uv 0) Q8)))
 bD)
 (aE (bS (i8.pt (jE (dQ (cA fM aO (aA (uv 1) (aA (eK (n:="bool") jN) aB)))) (iU (dQ (cA fM aO (aA (uv 0) (aA (eK (n:="bool") jN) aB)))))))
 (aH (aQ (j8 (cA fM aO (aA (uv 1) (aA (eK (n:="bool") jN) aB))) (j8 (cA fM aO (aA (uv 0) (aA (eK (n:="bool") jN) aB))) (kF (p9 eB (uv 0) (uv 1)))))))
 bD)
 (aE (bS (i8.pt (jE (cB lQ (cA fM aO (aA (uv 1) (aA (eK (n:="int") kO) aB))) (cA fM aO (aA (uv 0) (aA (eK (n:="int") kO) aB)))) (iU (cB lQ (cA fM aO (aA (uv 1) (aA (eK (n:="str") kL) aB))) (cA fM aO (aA (uv 0) (aA (eK (n:="str") kL) aB)))))))
 (aH (aQ mZ))
 bD)
 (aH (aQ (p9 eB (uv 0) (uv 1)))))))) ?_
 rintro us M Q ⟨u,rfl,hp,q⟩
 refine ⟨rfl,?_⟩
 generalize hn:m + 1=n at hp
 cases u with
 | int i =>
  refine aM fun V1 hV1=>?_
  refine bQ fun A B hA hB=>?_
  simp! only [u9,aD]
  refine ⟨"int",["list","tuple"],false,rfl,rfl,by kernel_rfl,?_⟩
  simp! only [aD]
  subst hB
  simp only [b8]
  subst hV1
  refine aM fun V2 hV2=>?_
  refine bQ fun A B hA hB=>?_
  simp! only [aD]
  subst hB
  simp only [b8]
  subst hV2
  refine aM fun V3 hV3=>?_
  refine bQ fun A B hA hB=>?_
  simp! only [aD]
  subst hB
  simp only [b8]
  subst hV3
  refine aM fun V4 hV4=>?_
  refine bQ fun A B hA hB=>?_
  simp! only [xV,aD]
  subst hB
  simp only [b8]
  subst hV4
  simp! only [cH,aD]
  exact aN q
 | str i =>
  refine aM fun V1 hV1=>?_
  refine bQ fun A B hA hB=>?_
  simp! only [u9,aD]
  refine ⟨"str",["list","tuple"],false,rfl,rfl,by kernel_rfl,?_⟩
  simp! only [aD]
  subst hB
  simp only [b8]
  subst hV1
  refine aM fun V2 hV2=>?_
  refine bQ fun A B hA hB=>?_
  simp! only [aD]
  subst hB
  simp only [b8]
  subst hV2
  refine aM fun V3 hV3=>?_
  refine bQ fun A B hA hB=>?_
  simp! only [aD]
  subst hB
  simp only [b8]
  subst hV3
  refine aM fun V4 hV4=>?_
  refine bQ fun A B hA hB=>?_
  simp! only [xV,aD]
  subst hB
  simp only [b8]
  subst hV4
  simp! only [cH,aD]
  exact aN q
 | tup us =>
  cases n with
  | zero=>exact hp.elim
  | succ n =>
   cases hn
   obtain ⟨hl,hp⟩:=hp
   refine aM fun V1 hV1=>?_
   refine bQ fun A B hA hB=>?_
   simp! only [u9,aD]
   refine ⟨"tuple",["list","tuple"],true,rfl,rfl,by kernel_rfl,?_⟩
   simp! only [aD]
   subst hA
   refine aM fun V2 hV2=>?_
   refine bQ fun A B hA hB=>?_
   simp! only [xV,aD]
   subst hB
   simp only [b8]
   subst hV2
   refine aM fun V3 hV3=>?_
   refine bQ fun A B hA hB=>?_
   simp! only [aD]
   subst hB
   simp only [b8]
   subst hV3
   refine aM fun V4 hV4=>?_
   refine gE (S:=⟨none,dP us us⟩) (M1:=M) (fun R r=>by simp! only [IJ,wV,aD];first | exact .inl r | exact .inr r) (fun i τ M'=>∃ a b,τ=[some (U.tup us),some (U.tup us),a,b]/\M'=M) ⟨none,none,rfl,rfl⟩ (fun _ _ _ _ _ e=>by cases e) ?_ ?_
   ·rintro i x τ M' hx ⟨a,b,rfl,rfl⟩
    obtain ⟨u,v,e1,e2,rfl⟩:=mX hx
    rw [e1] at e2
    cases e2
    simp! only [iK,h9,hName,jZ,aD]
    refine bQ fun A B hA hB=>?_
    simp! only [aD]
    refine ⟨u,rfl,hp u (List.mem_of_getElem? e1),?_⟩
    simp! only [aD]
    subst hB
    exact ⟨_,_,rfl,rfl⟩
   ·rintro τ M' ⟨a,b,rfl,rfl⟩
    show V4 _ _
    subst hV4
    simp! only [cH,aD]
    exact aN q
 | lst us =>
  cases n with
  | zero=>exact hp.elim
  | succ n =>
   cases hn
   obtain ⟨hl,hp⟩:=hp
   refine aM fun V1 hV1=>?_
   refine bQ fun A B hA hB=>?_
   simp! only [u9,aD]
   refine ⟨"list",["list","tuple"],true,rfl,rfl,by kernel_rfl,?_⟩
   simp! only [aD]
   subst hA
   refine aM fun V2 hV2=>?_
   refine bQ fun A B hA hB=>?_
   simp! only [xV,aD]
   subst hB
   simp only [b8]
   subst hV2
   refine aM fun V3 hV3=>?_
   refine bQ fun A B hA hB=>?_
   simp! only [aD]
   subst hB
   simp only [b8]
   subst hV3
   refine aM fun V4 hV4=>?_
   refine gE (S:=⟨none,dP us us⟩) (M1:=M) (fun R r=>by simp! only [IJ,wV,aD];first | exact .inl r | exact .inr r) (fun i τ M'=>∃ a b,τ=[some (U.lst us),some (U.lst us),a,b]/\M'=M) ⟨none,none,rfl,rfl⟩ (fun _ _ _ _ _ e=>by cases e) ?_ ?_
   ·rintro i x τ M' hx ⟨a,b,rfl,rfl⟩
    obtain ⟨u,v,e1,e2,rfl⟩:=mX hx
    rw [e1] at e2
    cases e2
    simp! only [iK,h9,hName,jZ,aD]
    refine bQ fun A B hA hB=>?_
    simp! only [aD]
    refine ⟨u,rfl,hp u (List.mem_of_getElem? e1),?_⟩
    simp! only [aD]
    subst hB
    exact ⟨_,_,rfl,rfl⟩
   ·rintro τ M' ⟨a,b,rfl,rfl⟩
    show V4 _ _
    subst hV4
    simp! only [cH,aD]
    exact aN q
 | _=>cases n <;> exact hp.elim
theorem BL (F:cL K "_law_same" "_law_same" jJ f fd) (hm:mg "_law_same"=some (.ref f)) (aO:mg "isinstance"=none) (bA:mg "tuple"=none) (d5:mg "list"=none) (bU:mg "len"=none) (kY:mg "zip"=none) (jN:mg "bool"=none) (kO:mg "int"=none) (kL:mg "str"=none):∀ n,Callee P w K mg base (n + 1) "_law_same" (rP n) []
 | 0=>by
  have no:∀ us M Q,¬ rP 0 us M Q:=fun us M Q h=>by
   obtain ⟨u,_,h,_⟩:=h
   exact h
  refine ⟨f,fd,["told","due"],[],[],⟨fun vs H Q E h=>?_,fun A outer s H args us vs Q E _ _ _ _ h=>?_⟩,hm,F.kp,F.binds (oP fun _ _ _ _ _ _ _ _=>rfl),.nil,fun H M=>.nil⟩
  ·obtain ⟨us,M,Q',_,_,h,_⟩:=h;exact absurd h (no us M Q')
  ·obtain ⟨us,M,Q',_,_,h,_⟩:=h;exact absurd h (no us M Q')
 | n + 1=>LU F hm aO bA d5 bU kY jN kO kL (BL F hm aO bA d5 bU kY jN kO kL n)
theorem B9 (F:cL K "_law_bare" "_law_bare" jD f fd) (hm:mg "_law_bare"=some (.ref f)) (bA:mg "tuple"=none):∀ n,Callee P w K mg base (n + 1) "_law_bare" (uU n) []
 | 0=>by
  have no:∀ us M Q,¬ uU 0 us M Q:=fun us M Q h=>by
   obtain ⟨p,_,h,_⟩:=h
   have:=pI p
   omega
  refine ⟨f,fd,["pattern"],[],[],⟨fun vs H Q E h=>?_,fun A outer s H args us vs Q E _ _ _ _ h=>?_⟩,hm,F.kp,F.binds (oA fun _ _ _ _ _ _ _=>rfl),.nil,fun H M=>.nil⟩
  ·obtain ⟨us,M,Q',_,_,h,_⟩:=h;exact absurd h (no us M Q')
  ·obtain ⟨us,M,Q',_,_,h,_⟩:=h;exact absurd h (no us M Q')
 | n + 1=>L4 F hm bA (B9 F hm bA n)
theorem rR:∀ {n m:Nat} {u:U},n<=m->DW n u->DW m u
 | 0,m,u,_,p=>p.elim
 | n + 1,0,u,h,_=>by omega
 | n + 1,m + 1,.int _,_,_=>trivial
 | n + 1,m + 1,.str _,_,_=>trivial
 | n + 1,m + 1,.tup us,h,p=>⟨p.1,fun u hu=>rR (Nat.le_of_succ_le_succ h) (p.2 u hu)⟩
 | n + 1,m + 1,.lst us,h,p=>⟨p.1,fun u hu=>rR (Nat.le_of_succ_le_succ h) (p.2 u hu)⟩
 | n + 1,m + 1,.non,_,p=>p.elim
 | n + 1,m + 1,.bl _,_,p=>p.elim
 | n + 1,m + 1,.ty _,_,p=>p.elim
 | n + 1,m + 1,.ref _,_,p=>p.elim
 | n + 1,m + 1,.dic _ _ _,_,p=>p.elim
theorem AN:∀ t:Tr,DW (t.dep + 1) t.toU
 | .num _=>⟨by simp,fun u hu=>by
   rcases List.mem_cons.mp hu with rfl | hu
   ·trivial
   ·cases List.mem_singleton.mp hu;trivial⟩
 | .name _=>⟨by simp,fun u hu=>by
   rcases List.mem_cons.mp hu with rfl | hu
   ·trivial
   ·cases List.mem_singleton.mp hu;trivial⟩
 | .turn a=>⟨by simp,fun u hu=>by
   rcases List.mem_cons.mp hu with rfl | hu
   ·trivial
   ·cases List.mem_singleton.mp hu;exact AN a⟩
 | .two o a b=>⟨by simp,fun u hu=>by
   rcases List.mem_cons.mp hu with rfl | hu
   ·trivial
   ·rcases List.mem_cons.mp hu with rfl | hu
    ·exact rR (Nat.succ_le_succ (Nat.le_max_left _ _)) (AN a)
    ·cases List.mem_singleton.mp hu;exact rR (Nat.succ_le_succ (Nat.le_max_right _ _)) (AN b)⟩
theorem oR:∀ p:Pt,p.ends.length + 1<=2 ^ p.dep
 | .hole _=>Nat.le_refl 2
 | .any=>Nat.le_refl 2
 | .fr _ _=>Nat.le_refl 2
 | .turn a=>by
  have:=oR a
  simp only [Pt.ends,Pt.dep,Nat.pow_succ]
  omega
 | .two o a b=>by
  have h1:=oR a
  have h2:=oR b
  simp only [Pt.ends,Pt.dep,Nat.pow_succ,List.length_append]
  have e1:2 ^ a.dep<=2 ^ max a.dep b.dep:=Nat.pow_le_pow_right (by decide) (Nat.le_max_left _ _)
  have e2:2 ^ b.dep<=2 ^ max a.dep b.dep:=Nat.pow_le_pow_right (by decide) (Nat.le_max_right _ _)
  omega
def DA (Pt0:Addr):bF:=fun us M Q=>∃ c:Int,us=[.int c]/\M Pt0=some (.tbl QF)/\Q (.bl true) M
theorem JF {Pt0:Addr} (F:cL K "_law_right" "_law_right" jW f fd) (hm:mg "_law_right"=some (.ref f)) (bU:mg "len"=none) (bA:mg "tuple"=none) (d5:mg "list"=none) (C7:Callee P w K mg base 2 "_law_draws" DB []) (tU:Callee P w K mg base 3 "_law_pattern" zQ []) (oS:Callee P w K mg base 6 "_law_bare" (uU 5) []) (sP:Callee P w K mg base 7 "_law_ends" (uE 6) []) (CU:Callee P w K mg base 2 "_law_borne" Dk []) (tP:Callee P w K mg base 7 "_law_laid" (uY 6) []) (jI:Callee P w K mg base 13 "_law_same" (rP 12) []) (v8:Callee P w K mg base 14 "behind" (vX Pt0) []) (pR:Callee P w K mg base 14 "cell_words" (yH Pt0) []):Callee P w K mg base 15 "_law_right" (DA Pt0) []:=by
 refine bN F hm cK (oA fun _ _ _ _ _ _ _=>rfl) (aE (aZ 1 cK.nd (aP C7 (aA (uv 0) (aA aK aB))))
 (aE (aZ 2 cK.nd (mV (own:=false) (bC (aA dR (aA dR (aA dR aB)))) nA (iT (dF (own:=false) aK (cD (aL (uv 1) aK) aK)))))
 (aE (aZ 3 cK.nd (aP oS (aA (aP tU (aA (mV (own:=false) (uv 1) (iT aK) (iT (dF (own:=false) aK (cD (aL (uv 1) aK) aK)))) (aA (uv 2) aB))) aB)))
 (aE (aZ 4 cK.nd (aP oS (aA (aP tU (aA (mV (own:=false) (uv 1) (iT aK) (iT (dF (own:=false) aK (cD (aL (uv 1) aK) aK)))) (aA (uv 2) aB))) aB)))
 (aE (aZ 5 cK.nd (cU (own:=false) (aA (bC (aA dR (aA (aL (uv 2) (cD (aL (uv 1) aK) (cA iJ bU (aA (uv 2) aB)))) (aA (uv 3) (aA (cD (aL (uv 1) aK) aK) aB))))) (aA (bC (aA dR (aA (aL (uv 2) aK) (aA (uv 4) (aA aK aB))))) aB))))
 (aE (aZ 5 cK.nd (qT sH bA (aA (mV (own:=false) (uv 5) nA (iT (dF (own:=false) aK (cD (aL (uv 1) aK) aK)))) aB)))
 (aE (aZ 6 cK.nd (cD (eR (aL (uv 1) aK) aK) (cA iJ bU (aA (uv 5) aB))))
 (aE (aZ 7 cK.nd (aL (aL (uv 5) (uv 6)) aK))
 (aE (aZ 8 cK.nd (aP CU (aA (aP sP (aA (uv 7) (aA (bC aB) aB))) (aA (aL (uv 1) aK) aB))))
 (aE (aZ 9 cK.nd (cD (eR (aL (uv 1) aK) aK) aK))
 (aE (aZ 10 cK.nd (cU (own:=false) (aA (bC (aA (uv 6) (aA (qT sH bA (aA (uv 8) aB)) (aA (bC aB) (aA (uv 9) aB))))) aB)))
 (aE (aZ 11 cK.nd (cU (own:=false) (aA (bC (aA (uv 9) (aA (aL (aL (uv 5) (uv 6)) aK) (aA (aP tP (aA (uv 7) (aA (qT (wO (own:=true)) d5 (aA (uv 8) aB)) (aA (cU (own:=true) aB) aB)))) aB)))) aB)))
 (aE (bS (fF (dQ (aP jI (aA (aP v8 (aA (bC (aA (uv 2) (aA (uv 5) aB))) (aA (qT (wO (own:=false)) d5 (aA (uv 10) aB)) aB))) (aA (uv 11) aB)))))
 (aH (aQ mZ))
 bD)
 (aH (aQ (aP jI (aA (aP pR (aA (bC (aA (uv 2) (aA (uv 5) aB))) (aA (qT (wO (own:=false)) d5 (aA (uv 10) aB)) aB))) (aA (cU (own:=false) (aA (bC (aA (uv 9) (aA (cU (own:=false) (aA (uv 6) aB)) aB))) aB)) aB)))))))))))))))))) ?_
 rintro us M Q ⟨c,rfl,hP,q⟩
 refine ⟨rfl,?_⟩
 refine aM fun V1 hV1=>?_
 simp! only [cF,hName,aD]
 refine ⟨c,24,rfl,by decide,fun l hl hl0=>?_⟩
 have ix:∀ k:Nat,k < 24->∃ x:Int,0<=x/\dM (l.map U.int) (k:Int)=some (.int x):=fun k hk=>by
  have:l[k]?=some l[k]:=List.getElem?_eq_getElem (by omega)
  exact ⟨l[k],hl0 _ (List.mem_of_getElem? this),kN (by rw [List.getElem?_map,this];rfl)⟩
 obtain ⟨x0,p0,h0⟩:∃ x:Int,0<=x/\dM (l.map U.int) 0=some (.int x):=ix 0 (by decide)
 obtain ⟨x1,p1,h1⟩:∃ x:Int,0<=x/\dM (l.map U.int) 1=some (.int x):=ix 1 (by decide)
 obtain ⟨x2,p2,h2⟩:∃ x:Int,0<=x/\dM (l.map U.int) 2=some (.int x):=ix 2 (by decide)
 obtain ⟨x3,p3,h3⟩:∃ x:Int,0<=x/\dM (l.map U.int) 3=some (.int x):=ix 3 (by decide)
 obtain ⟨x4,p4,h4⟩:∃ x:Int,0<=x/\dM (l.map U.int) 4=some (.int x):=ix 4 (by decide)
 obtain ⟨x5,p5,h5⟩:∃ x:Int,0<=x/\dM (l.map U.int) 5=some (.int x):=ix 5 (by decide)
 subst hV1
 refine aM fun V2 hV2=>?_
 simp! only [cF,hName,h1,aD]
 refine ⟨by decide,?_⟩
 obtain ⟨ss,s1,s2,s3⟩:∃ ss:List Str,ss≠[]/\(∀ s∈ss,PyData.strOk s=true)/\j7 [U.str (Str.ofString "b"),U.str (Str.ofString "ab"),U.str (Str.ofString "a")] none (some (1 + x1 % 3))=ss.map U.str:=by
  have:x1 % 3=0\/x1 % 3=1\/x1 % 3=2:=by omega
  rcases this with e | e | e <;> rw [e]
  ·exact ⟨[Str.ofString "b"],by simp,fun s hs=>by cases List.mem_singleton.mp hs;decide +kernel,rfl⟩
  ·exact ⟨[Str.ofString "b",Str.ofString "ab"],by simp,by decide +kernel,rfl⟩
  ·exact ⟨[Str.ofString "b",Str.ofString "ab",Str.ofString "a"],by simp,by decide +kernel,rfl⟩
 rw [s3]
 subst hV2
 refine aM fun V3 hV3=>?_
 simp! only [cF,hName,h2,aD]
 refine ⟨by decide,?_⟩
 have cut:∀ (a b:Int) (x:Int),(0<=a/\a<=15/\b=a + 1)->∃ l',j7 (l.map U.int) (some a) (some (b + x % 9))=l'.map U.int/\l'≠[]/\l'.length<=60:=fun a b x hab=>by
  have hx:0<=x % 9/\x % 9<=8:=by omega
  obtain ⟨r,r1,r2⟩:=Mp l a.toNat (b + x % 9).toNat (by omega) (by omega)
  have e1:((a.toNat:Nat):Int)=a:=by omega
  have e2:(((b + x % 9).toNat:Nat):Int)=b + x % 9:=by omega
  rw [e1,e2] at r1
  exact ⟨r,r1,fun z=>by rw [z] at r2;simp at r2;omega,by omega⟩
 obtain ⟨l1,c1,c2,c3⟩:=cut 6 7 x2 (by omega)
 rw [c1]
 refine ⟨l1,ss,rfl,c2,c3,s1,s2,fun pa a1 a2 a3=>⟨pa,rfl,a2,?_⟩⟩
 subst hV3
 refine aM fun V4 hV4=>?_
 simp! only [cF,hName,h3,aD]
 refine ⟨by decide,?_⟩
 obtain ⟨l2,d1,d2,d3⟩:=cut 15 16 x3 (by omega)
 rw [d1]
 refine ⟨l2,ss,rfl,d2,d3,s1,s2,fun pb b1 b2 b3=>⟨pb,rfl,b2,?_⟩⟩
 subst hV4
 have hsl:0 < (ss.length:Int):=by have:=List.length_pos_iff.mpr s1;omega
 obtain ⟨sa,hsa⟩:=uN ss (x4 % (ss.length:Int)) (Int.emod_nonneg _ (by omega)) (Int.emod_lt_of_pos _ hsl)
 obtain ⟨sb,hsb⟩:=uN ss 0 (by decide) hsl
 have atm:∀ {k:Int} {z:Str},dM ss k=some z->dM (ss.map U.str) k=some (.str z):=fun {k z} h=>by
  unfold dM at h ⊢
  rw [List.length_map]
  cases e:qQ ss.length k with
  | none=>rw [e] at h;cases h
  | some j =>
   rw [e] at h
   have h':ss[j]?=some z:=h
   show (ss.map U.str)[j]?=_
   rw [List.getElem?_map,h'];rfl
 refine aM fun V5 hV5=>?_
 simp! only [cF,hName,h4,h5,List.length_map,atm hsa,atm hsb,aD]
 refine ⟨hsl,by decide,?_⟩
 subst hV5
 refine aM fun V6 hV6=>?_
 simp! only [cF,hName,h0,aD]
 refine ⟨by decide,?_⟩
 obtain ⟨tiles,t1,t2,t3,t4⟩:∃ tiles:List Tl,tiles≠[]/\tiles.length<=2/\(∀ t∈tiles,t.pt.holes=0/\t.pt.dep<=5/\t.pt.ok)/\j7 [U.tup [U.str (Str.ofString "t"),U.str sa,(eC pa).toU,U.int (x5 % 1001)],U.tup [U.str (Str.ofString "tt"),U.str sb,(eC pb).toU,U.int 0]] none (some (1 + x0 % 2))=tiles.map Tl.toU:=by
  have ga:(eC pa).holes=0/\(eC pa).dep<=5/\(eC pa).ok:=⟨mH pa,by rw [pV];exact a2,sA pa a1⟩
  have gb:(eC pb).holes=0/\(eC pb).dep<=5/\(eC pb).ok:=⟨mH pb,by rw [pV];exact b2,sA pb b1⟩
  have:x0 % 2=0\/x0 % 2=1:=by omega
  rcases this with e | e <;> rw [e]
  ·exact ⟨[⟨Str.ofString "t",sa,eC pa,x5 % 1001⟩],by simp,by simp,fun t ht=>by cases List.mem_singleton.mp ht;exact ga,rfl⟩
  ·refine ⟨[⟨Str.ofString "t",sa,eC pa,x5 % 1001⟩,⟨Str.ofString "tt",sb,eC pb,0⟩],by simp,by simp,fun t ht=>?_,rfl⟩
   rcases List.mem_cons.mp ht with rfl | ht
   ·exact ga
   ·cases List.mem_singleton.mp ht;exact gb
 rw [t4]
 subst hV6
 have htl:0 < tiles.length:=List.length_pos_iff.mpr t1
 refine aM fun V7 hV7=>?_
 simp! only [cF,hName,h0,List.length_map,aD]
 refine ⟨⟨by decide,by decide⟩,by omega,?_⟩
 obtain ⟨n,hn,hnl⟩:∃ n:Nat,x0 / 2 % (tiles.length:Int)=(n:Int)/\n < tiles.length:=by
  have e1:=Int.emod_nonneg (x0 / 2) (show (tiles.length:Int)≠0 by omega)
  have e2:=Int.emod_lt_of_pos (x0 / 2) (show (0:Int) < tiles.length by omega)
  exact ⟨(x0 / 2 % (tiles.length:Int)).toNat,by omega,by omega⟩
 rw [hn]
 have hat:tiles[n]?=some tiles[n]:=List.getElem?_eq_getElem hnl
 generalize tiles[n]=tl at hat
 obtain ⟨tb,td,tk⟩:=t3 tl (List.mem_of_getElem? hat)
 have hix:dM (tiles.map Tl.toU) (n:Int)=some tl.toU:=kN (by rw [List.getElem?_map,hat];rfl)
 subst hV7
 refine aM fun V8 hV8=>?_
 simp! only [cF,hName,hix,aD]
 simp! only [Tl.toU,aD]
 subst hV8
 refine aM fun V9 hV9=>?_
 simp! only [cF,hName,h5,aD]
 refine ⟨tl.pt,[],rfl,by omega,by decide,by decide,?_⟩
 have hel:(cV tl.pt []).map (·.2)=tl.pt.ends:=kM tl.pt []
 have hb:=oR tl.pt
 have hp2:2 ^ tl.pt.dep<=2 ^ 5:=Nat.pow_le_pow_right (by decide) td
 have hll:(cV tl.pt []).length<=100:=by rw [<- List.length_map (f:=(·.2)),hel];omega
 refine ⟨cV tl.pt [],x5,rfl,by omega,oX tl.pt [] tk,fun bs hbs=>?_⟩
 rw [hel] at hbs
 obtain ⟨f1,_⟩:=qE tl.pt.ends bs hbs (lV tl.pt tb)
 subst hV9
 refine aM fun V10 hV10=>?_
 simp! only [cF,hName,h4,aD]
 refine ⟨⟨by decide,by decide⟩,by decide,?_⟩
 obtain ⟨d,hd,vU⟩:∃ d:Nat,x4 / 7 % 100=(d:Int)/\d < 100:=⟨(x4 / 7 % 100).toNat,by omega,by omega⟩
 rw [hd]
 subst hV10
 refine aM fun V11 hV11=>?_
 simp! only [cF,hName,aD]
 subst hV11
 refine aM fun V12 hV12=>?_
 simp! only [cF,hName,hix,aD]
 simp! only [Tl.toU,aD]
 intro b hb0 t ht0
 have hbt:b≠t:=fun z=>by rw [<- z,aS] at ht0;cases ht0
 have htM:M t=none:=by rw [aT hbt.symm] at ht0;exact ht0
 have hPb:Pt0≠b:=fun z=>by rw [z,hb0] at hP;cases hP
 have hPt:Pt0≠t:=fun z=>by rw [z,htM] at hP;cases hP
 refine ⟨tl.pt,b,t,bs,[],[],[],rfl,by omega,hbt,by rw [aT hbt,aS,List.append_nil],by rw [aS];rfl,hbs,tb.symm,(fun x hx=>by cases hx),fun r M' r1 r2 r3 r4 m1 m2 m3=>?_⟩
 have hP':M' Pt0=some (.tbl QF):=by rw [m3 Pt0 hPb hPt,aT hPt,aT hPb];exact hP
 have hsub:Sub M M':=fun x o hx=>by
  have x1:x≠b:=fun z=>by rw [z,hb0] at hx;cases hx
  have x2:x≠t:=fun z=>by rw [z,htM] at hx;cases hx
  rw [m3 x x1 x2,aT x2,aT x1];exact hx
 have hlie:gB tl.pt r=true:=r3
 subst r4
 have hgot:Got tiles n tl d r:=⟨⟨hat,tb,by omega,tk,hbs,by omega,vU⟩,hlie⟩
 have hdep:r.dep<=5:=by
  obtain ⟨_,g2,_⟩:=rX tl.pt r tk tb hlie (pQ _ _ hbs)
  omega
 subst hV12
 refine aM fun V13 hV13=>?_
 refine bQ fun A B hA hB=>?_
 simp! only [aD]
 refine ⟨ss,tiles,hP',.inr ⟨n,tl,d,r,rfl,hgot,?_⟩⟩
 refine ⟨_,rfl,?_,?_⟩
 ·refine ⟨by simp,fun u hu=>?_⟩
  cases List.mem_singleton.mp hu
  refine ⟨by simp,fun u hu=>?_⟩
  rcases List.mem_cons.mp hu with rfl | hu
  ·trivial
  ·rcases List.mem_cons.mp hu with rfl | hu
   ·trivial
   ·cases List.mem_singleton.mp hu;exact rR (m:=10) (by omega) (AN r)
 simp! only [aD]
 subst hB
 simp only [b8]
 subst hV13
 simp! only [cH,aD]
 refine ⟨ss,tiles,hP',.inr ⟨n,tl,d,r,rfl,hgot,?_⟩⟩
 refine ⟨_,rfl,?_,?_⟩
 ·refine ⟨by simp,fun u hu=>?_⟩
  cases List.mem_singleton.mp hu
  refine ⟨by simp,fun u hu=>?_⟩
  rcases List.mem_cons.mp hu with rfl | hu
  ·trivial
  ·cases List.mem_singleton.mp hu
   refine ⟨by simp,fun u hu=>?_⟩
   cases List.mem_singleton.mp hu;trivial
 exact ⟨_,M,hsub,.inl rfl,q⟩
theorem OV (ns:List Int):dS (ns.map U.int)=some (ns.map PyData.int):=by
 induction ns with
 | nil=>rfl
 | cons a r ih=>simp only [List.map_cons,dS,toD,ih]
theorem JM (ns:List Int):PyData.canLayAll0 (ns.map PyData.int)=true:=by
 induction ns with
 | nil=>rfl
 | cons a r ih=>simp only [List.map_cons,PyData.canLayAll0,PyData.canLay0,ih];rfl
theorem eq_nil {ns:List Int} {M:aF} {Q:UK} (q:Q (.bl ns.isEmpty) M):kD false (.lst (ns.map U.int)) (.lst []) M Q:=by
 have e1:nH M (.lst (ns.map U.int))=some (.list (ns.map PyData.int)):=by simp only [nH,toD,OV];rfl
 have e2:nH M (.lst [])=some (.list []):=by simp [nH,toD,dS]
 show yR false _ _ M Q
 refine ⟨_,_,e1,e2,by simp only [PyData.canLay0];exact JM ns,by decide +kernel,by simp [PyData.depth,PyData.depthAll],?_⟩
 have e3:PyData.eqv (.list (ns.map PyData.int)) (.list [])=ns.isEmpty:=by
  rw [PyData.eqv]
  cases ns with
  | nil=>rfl
  | cons a r=>rfl
 rw [e3]
 exact q
theorem rY:aX ["script","cells","cell","table"] ["script"] (aG oU):=eZ
def wY (Pt0:Addr):bF:=fun us M Q=>∃ ns:List Int,us=[.lst (ns.map .int)]/\ns.length<=63/\M Pt0=some (.tbl QF)/\Q (.bl true) M
theorem Oo {Pt0:Addr} (F:cL K "law" "law" oU f fd) (d5:mg "list"=none) (Dh:Callee P w K mg base 15 "_law_right" (DA Pt0) []) (jI:Callee P w K mg base 13 "_law_same" (rP 12) []) (v8:Callee P w K mg base 14 "behind" (vX Pt0) []) (pR:Callee P w K mg base 14 "cell_words" (yH Pt0) []):iZ P w K mg base m5 16 f fd ["script"] (fE K (wY Pt0)):=by
 refine DI F rY (fun us M Q h=>by obtain ⟨_,rfl,_⟩:=h;rfl) (aE (aZ 1 rY.nd (qT (wO (own:=false)) d5 (aA (uv 0) aB)))
 (aE (bS (cB eB (uv 1) (cU (own:=false) aB))
 (aH (aZ 1 rY.nd (cU (own:=false) (aA aK aB))))
 bD)
 (aE (i7 (dO (uv 1)) (aY (k:=1000) 2 rY.nd)
 (aH (bS (fF (dQ (aP Dh (aA (uv 2) aB))))
 (aH (aQ mZ))
 bD)))
 (aE (aZ 3 rY.nd (bC (aA (bC (aA dR aB)) (aA (bC (aA (bC (aA dR (aA dR (aA (bC (aA dR aB)) (aA aK aB))))) aB)) aB))))
 (aH (aQ (j8 (aP jI (aA (aP v8 (aA (uv 3) (aA (cU (own:=false) aB) aB))) (aA (cU (own:=false) aB) aB))) (kF (aP jI (aA (aP pR (aA (uv 3) (aA (cU (own:=false) aB) aB))) (aA (cU (own:=false) aB) aB))))))))))) ?_
 rintro us M Q ⟨ns,rfl,hns,hP,q⟩
 refine aM fun V1 hV1=>?_
 simp! only [cF,hName,aD]
 subst hV1
 refine aM fun V2 hV2=>?_
 have loop:∀ ms:List Int,ms.length<=63->V2 [some (.lst (ns.map .int)),some (.lst (ms.map .int)),none,none] M:=fun ms hms=>by
  subst hV2
  refine aM fun V3 hV3=>?_
  refine gE (S:=⟨none,ms.map .int⟩) (M1:=M) (fun R r=>by simp! only [aD];exact r) (fun i τ M'=>∃ a,τ=[some (.lst (ns.map .int)),some (.lst (ms.map .int)),a,none]/\M'=M) ⟨none,rfl,rfl⟩ (fun _ _ _ _ _ e=>by cases e) ?_ ?_
  ·rintro i x τ M' hx ⟨a,rfl,rfl⟩
   have hx':(ms.map U.int)[i]?=some x:=hx
   rw [List.getElem?_map] at hx'
   obtain ⟨c,hc,rfl⟩:=Option.map_eq_some_iff.mp hx'
   simp! only [hName,aD]
   refine bQ fun A B hA hB=>?_
   simp! only [aD]
   refine ⟨c,rfl,hP,?_⟩
   simp! only [aD]
   subst hB
   exact ⟨_,rfl,rfl⟩
  ·rintro τ M' ⟨a,rfl,rfl⟩
   show V3 _ _
   subst hV3
   refine aM fun V4 hV4=>?_
   simp! only [cF,hName,aD]
   subst hV4
   simp! only [cH,aD]
   refine ⟨[Str.ofString "a"],[⟨Str.ofString "t",Str.ofString "a",.any,0⟩],hP,.inl ⟨rfl,?_⟩⟩
   refine ⟨_,rfl,⟨by simp,fun u hu=>by cases hu⟩,?_⟩
   simp! only [aD]
   refine ⟨[Str.ofString "a"],[⟨Str.ofString "t",Str.ofString "a",.any,0⟩],hP,.inl ⟨rfl,?_⟩⟩
   exact ⟨_,rfl,⟨by simp,fun u hu=>by cases hu⟩,aN q⟩
 refine bQ fun A B hA hB=>?_
 simp! only [aD]
 refine eq_nil ?_
 simp! only [aD]
 cases ns with
 | nil =>
  simp! only [List.isEmpty_nil,aD]
  subst hA
  simp! only [cF,hName,aD]
  exact loop [7] (by simp)
 | cons a r =>
  simp! only [List.isEmpty_cons,aD]
  subst hB
  simp only [b8]
  exact loop (a :: r) hns
end
end K36
namespace K36
open PySem L2 U2
open PyProof.Rows in
theorem all_mk (Pt0:Addr) {l:PySem.W.OpenLaw} {w:World} {K:PySem.W.Frag} {h:Heap} {mg:Str->Option Value} {fa f0 f1 f2 f3 f4 f5 f6 f7 f8 f9 f10 f11 f12 f13 f14 f15 f16 f17 f18 f19 f20 f21 f22 f23 f24 f25 f26 f27 f28 f29 f30 f31 f32 f33 f34 f35 f36 f37:Addr} (X:K.In h) (G:h.Ns mainGlobals mg) (hfa:mg "law"=some (.ref fa))
  {od0 an0:Option Addr} {sl0:Array (Option Value)} {oc0 kV0 dc0 pm0 cd0 ct0:Value}
  {od1 an1:Option Addr} {sl1:Array (Option Value)} {oc1 kV1 dc1 pm1 cd1 ct1:Value}
  {od2 an2:Option Addr} {sl2:Array (Option Value)} {oc2 kV2 dc2 pm2 cd2 ct2:Value}
  {od3 an3:Option Addr} {sl3:Array (Option Value)} {oc3 kV3 dc3 pm3 cd3 ct3:Value}
  {od4 an4:Option Addr} {sl4:Array (Option Value)} {oc4 kV4 dc4 pm4 cd4 ct4:Value}
  {od5 an5:Option Addr} {sl5:Array (Option Value)} {oc5 kV5 dc5 pm5 cd5 ct5:Value}
  {od6 an6:Option Addr} {sl6:Array (Option Value)} {oc6 kV6 dc6 pm6 cd6 ct6:Value}
  {od7 an7:Option Addr} {sl7:Array (Option Value)} {oc7 kV7 dc7 pm7 cd7 ct7:Value}
  {od8 an8:Option Addr} {sl8:Array (Option Value)} {oc8 kV8 dc8 pm8 cd8 ct8:Value}
  {od9 an9:Option Addr} {sl9:Array (Option Value)} {oc9 kV9 dc9 pm9 cd9 ct9:Value}
  {od10 an10:Option Addr} {sl10:Array (Option Value)} {oc10 kV10 dc10 pm10 cd10 ct10:Value}
  {od11 an11:Option Addr} {sl11:Array (Option Value)} {oc11 kV11 dc11 pm11 cd11 ct11:Value}
  {od12 an12:Option Addr} {sl12:Array (Option Value)} {oc12 kV12 dc12 pm12 cd12 ct12:Value}
  {od13 an13:Option Addr} {sl13:Array (Option Value)} {oc13 kV13 dc13 pm13 cd13 ct13:Value}
  {od14 an14:Option Addr} {sl14:Array (Option Value)} {oc14 kV14 dc14 pm14 cd14 ct14:Value}
  {od15 an15:Option Addr} {sl15:Array (Option Value)} {oc15 kV15 dc15 pm15 cd15 ct15:Value}
  {od16 an16:Option Addr} {sl16:Array (Option Value)} {oc16 kV16 dc16 pm16 cd16 ct16:Value}
  {od17 an17:Option Addr} {sl17:Array (Option Value)} {oc17 kV17 dc17 pm17 cd17 ct17:Value}
  {od18 an18:Option Addr} {sl18:Array (Option Value)} {oc18 kV18 dc18 pm18 cd18 ct18:Value}
  {cd19:Addr} {od19 an19:Option Addr} {sl19:Array (Option Value)} {oc19 kV19 dc19 pm19 ct19:Value}
  {od20 an20:Option Addr} {sl20:Array (Option Value)} {oc20 kV20 dc20 pm20 cd20 ct20:Value}
  {od21 an21:Option Addr} {sl21:Array (Option Value)} {oc21 kV21 dc21 pm21 cd21 ct21:Value}
  {od22 an22:Option Addr} {sl22:Array (Option Value)} {oc22 kV22 dc22 pm22 cd22 ct22:Value}
  {od23 an23:Option Addr} {sl23:Array (Option Value)} {oc23 kV23 dc23 pm23 cd23 ct23:Value}
  {od24 an24:Option Addr} {sl24:Array (Option Value)} {oc24 kV24 dc24 pm24 cd24 ct24:Value}
  {od25 an25:Option Addr} {sl25:Array (Option Value)} {oc25 kV25 dc25 pm25 cd25 ct25:Value}
  {od26 an26:Option Addr} {sl26:Array (Option Value)} {oc26 kV26 dc26 pm26 cd26 ct26:Value}
  {od27 an27:Option Addr} {sl27:Array (Option Value)} {oc27 kV27 dc27 pm27 cd27 ct27:Value}
  {od28 an28:Option Addr} {sl28:Array (Option Value)} {oc28 kV28 dc28 pm28 cd28 ct28:Value}
  {od29 an29:Option Addr} {sl29:Array (Option Value)} {oc29 kV29 dc29 pm29 cd29 ct29:Value}
  {od30 an30:Option Addr} {sl30:Array (Option Value)} {oc30 kV30 dc30 pm30 cd30 ct30:Value}
  {od31 an31:Option Addr} {sl31:Array (Option Value)} {oc31 kV31 dc31 pm31 cd31 ct31:Value}
  {od32 an32:Option Addr} {sl32:Array (Option Value)} {oc32 kV32 dc32 pm32 cd32 ct32:Value}
  {od33 an33:Option Addr} {sl33:Array (Option Value)} {oc33 kV33 dc33 pm33 cd33 ct33:Value}
  {od34 an34:Option Addr} {sl34:Array (Option Value)} {oc34 kV34 dc34 pm34 cd34 ct34:Value}
  {od35 an35:Option Addr} {sl35:Array (Option Value)} {oc35 kV35 dc35 pm35 cd35 ct35:Value}
  {od36 an36:Option Addr} {sl36:Array (Option Value)} {oc36 kV36 dc36 pm36 cd36 ct36:Value}
  {od37 an37:Option Addr} {sl37:Array (Option Value)} {oc37 kV37 dc37 pm37 cd37 ct37:Value}
  {Io:Tok}
  {tk1:Tok}
  {tk2:Tok}
  {tk3:Tok}
  {tk4:Tok}
  {tk5:Tok}
  (a0:PySem.W.nsIn K mainGlobals "is_whole"=some (some (.ref f0))) (l0:K.lookup f0=some ⟨oc0,od0,.func (PySem.W.fnOf "is_whole" "is_whole" (aW kP) (aU kP) (aG kP) .none kV0 dc0 pm0 an0 cd0 ct0),sl0⟩) (c0:PySem.W.codeIn K cd0 "is_whole"=true) (k0:PySem.W.keepIn K (.ref f0)=true)
  (a1:PySem.W.nsIn K mainGlobals "is_number"=some (some (.ref f1))) (l1:K.lookup f1=some ⟨oc1,od1,.func (PySem.W.fnOf "is_number" "is_number" (aW jR) (aU jR) (aG jR) .none kV1 dc1 pm1 an1 cd1 ct1),sl1⟩) (c1:PySem.W.codeIn K cd1 "is_number"=true) (k1:PySem.W.keepIn K (.ref f1)=true)
  (a2:PySem.W.nsIn K mainGlobals "is_sign"=some (some (.ref f2))) (l2:K.lookup f2=some ⟨oc2,od2,.func (PySem.W.fnOf "is_sign" "is_sign" (aW lU) (aU lU) (aG lU) .none kV2 dc2 pm2 an2 cd2 ct2),sl2⟩) (c2:PySem.W.codeIn K cd2 "is_sign"=true) (k2:PySem.W.keepIn K (.ref f2)=true)
  (a3:PySem.W.nsIn K mainGlobals "is_shape"=some (some (.ref f3))) (l3:K.lookup f3=some ⟨oc3,od3,.func (PySem.W.fnOf "is_shape" "is_shape" (aW kX) (aU kX) (aG kX) .none kV3 dc3 pm3 an3 cd3 ct3),sl3⟩) (c3:PySem.W.codeIn K cd3 "is_shape"=true) (k3:PySem.W.keepIn K (.ref f3)=true)
  (a4:PySem.W.nsIn K mainGlobals "parts_of"=some (some (.ref f4))) (l4:K.lookup f4=some ⟨oc4,od4,.func (PySem.W.fnOf "parts_of" "parts_of" (aW kJ) (aU kJ) (aG kJ) .none kV4 dc4 pm4 an4 cd4 ct4),sl4⟩) (c4:PySem.W.codeIn K cd4 "parts_of"=true) (k4:PySem.W.keepIn K (.ref f4)=true)
  (a5:PySem.W.nsIn K mainGlobals "places_of"=some (some (.ref f5))) (l5:K.lookup f5=some ⟨oc5,od5,.func (PySem.W.fnOf "places_of" "places_of" (aW iN) (aU iN) (aG iN) .none kV5 dc5 pm5 an5 cd5 ct5),sl5⟩) (c5:PySem.W.codeIn K cd5 "places_of"=true) (k5:PySem.W.keepIn K (.ref f5)=true)
  (a6:PySem.W.nsIn K mainGlobals "shape_at"=some (some (.ref f6))) (l6:K.lookup f6=some ⟨oc6,od6,.func (PySem.W.fnOf "shape_at" "shape_at" (aW kR) (aU kR) (aG kR) .none kV6 dc6 pm6 an6 cd6 ct6),sl6⟩) (c6:PySem.W.codeIn K cd6 "shape_at"=true) (k6:PySem.W.keepIn K (.ref f6)=true)
  (a7:PySem.W.nsIn K mainGlobals "reckoned"=some (some (.ref f7))) (l7:K.lookup f7=some ⟨oc7,od7,.func (PySem.W.fnOf "reckoned" "reckoned" (aW jA) (aU jA) (aG jA) .none kV7 dc7 pm7 an7 cd7 ct7),sl7⟩) (c7:PySem.W.codeIn K cd7 "reckoned"=true) (k7:PySem.W.keepIn K (.ref f7)=true)
  (a8:PySem.W.nsIn K mainGlobals "is_name"=some (some (.ref f8))) (l8:K.lookup f8=some ⟨oc8,od8,.func (PySem.W.fnOf "is_name" "is_name" (aW lZ) (aU lZ) (aG lZ) .none kV8 dc8 pm8 an8 cd8 ct8),sl8⟩) (c8:PySem.W.codeIn K cd8 "is_name"=true) (k8:PySem.W.keepIn K (.ref f8)=true)
  (a9:PySem.W.nsIn K mainGlobals "is_tree_leaf"=some (some (.ref f9))) (l9:K.lookup f9=some ⟨oc9,od9,.func (PySem.W.fnOf "is_tree_leaf" "is_tree_leaf" (aW gW) (aU gW) (aG gW) .none kV9 dc9 pm9 an9 cd9 ct9),sl9⟩) (c9:PySem.W.codeIn K cd9 "is_tree_leaf"=true) (k9:PySem.W.keepIn K (.ref f9)=true)
  (a10:PySem.W.nsIn K mainGlobals "is_tree"=some (some (.ref f10))) (l10:K.lookup f10=some ⟨oc10,od10,.func (PySem.W.fnOf "is_tree" "is_tree" (aW mG) (aU mG) (aG mG) .none kV10 dc10 pm10 an10 cd10 ct10),sl10⟩) (c10:PySem.W.codeIn K cd10 "is_tree"=true) (k10:PySem.W.keepIn K (.ref f10)=true)
  (a11:PySem.W.nsIn K mainGlobals "holes"=some (some (.ref f11))) (l11:K.lookup f11=some ⟨oc11,od11,.func (PySem.W.fnOf "holes" "holes" (aW pE) (aU pE) (aG pE) .none kV11 dc11 pm11 an11 cd11 ct11),sl11⟩) (c11:PySem.W.codeIn K cd11 "holes"=true) (k11:PySem.W.keepIn K (.ref f11)=true)
  (a12:PySem.W.nsIn K mainGlobals "leaves"=some (some (.ref f12))) (l12:K.lookup f12=some ⟨oc12,od12,.func (PySem.W.fnOf "leaves" "leaves" (aW m7) (aU m7) (aG m7) .none kV12 dc12 pm12 an12 cd12 ct12),sl12⟩) (c12:PySem.W.codeIn K cd12 "leaves"=true) (k12:PySem.W.keepIn K (.ref f12)=true)
  (a13:PySem.W.nsIn K mainGlobals "is_cell"=some (some (.ref f13))) (l13:K.lookup f13=some ⟨oc13,od13,.func (PySem.W.fnOf "is_cell" "is_cell" (aW mB) (aU mB) (aG mB) .none kV13 dc13 pm13 an13 cd13 ct13),sl13⟩) (c13:PySem.W.codeIn K cd13 "is_cell"=true) (k13:PySem.W.keepIn K (.ref f13)=true)
  (a14:PySem.W.nsIn K mainGlobals "fits"=some (some (.ref f14))) (l14:K.lookup f14=some ⟨oc14,od14,.func (PySem.W.fnOf "fits" "fits" (aW rQ) (aU rQ) (aG rQ) .none kV14 dc14 pm14 an14 cd14 ct14),sl14⟩) (c14:PySem.W.codeIn K cd14 "fits"=true) (k14:PySem.W.keepIn K (.ref f14)=true)
  (a15:PySem.W.nsIn K mainGlobals "is_row"=some (some (.ref f15))) (l15:K.lookup f15=some ⟨oc15,od15,.func (PySem.W.fnOf "is_row" "is_row" (aW nQ) (aU nQ) (aG nQ) .none kV15 dc15 pm15 an15 cd15 ct15),sl15⟩) (c15:PySem.W.codeIn K cd15 "is_row"=true) (k15:PySem.W.keepIn K (.ref f15)=true)
  (a16:PySem.W.nsIn K mainGlobals "are_borne"=some (some (.ref f16))) (l16:K.lookup f16=some ⟨oc16,od16,.func (PySem.W.fnOf "are_borne" "are_borne" (aW jY) (aU jY) (aG jY) .none kV16 dc16 pm16 an16 cd16 ct16),sl16⟩) (c16:PySem.W.codeIn K cd16 "are_borne"=true) (k16:PySem.W.keepIn K (.ref f16)=true)
  (a17:PySem.W.nsIn K mainGlobals "are_taken"=some (some (.ref f17))) (l17:K.lookup f17=some ⟨oc17,od17,.func (PySem.W.fnOf "are_taken" "are_taken" (aW jS) (aU jS) (aG jS) .none kV17 dc17 pm17 an17 cd17 ct17),sl17⟩) (c17:PySem.W.codeIn K cd17 "are_taken"=true) (k17:PySem.W.keepIn K (.ref f17)=true)
  (a18:PySem.W.nsIn K mainGlobals "can_take"=some (some (.ref f18))) (l18:K.lookup f18=some ⟨oc18,od18,.func (PySem.W.fnOf "can_take" "can_take" (aW kW) (aU kW) (aG kW) .none kV18 dc18 pm18 an18 cd18 ct18),sl18⟩) (c18:PySem.W.codeIn K cd18 "can_take"=true) (k18:PySem.W.keepIn K (.ref f18)=true)
  (a19:PySem.W.nsIn K mainGlobals "filled"=some (some (.ref f19))) (l19:K.lookup f19=some ⟨oc19,od19,.func (PySem.W.fnOf "filled" "filled" (aW jF) (aU jF) (aG jF) .none kV19 dc19 pm19 an19 (.ref cd19) ct19),sl19⟩) (c19:PySem.W.codeIn K (.ref cd19) "filled"=true) (k19:PySem.W.keepIn K (.ref f19)=true)
  (q19:PySem.W.codeHdIn K cd19 Pt0=true)
  (a20:PySem.W.nsIn K mainGlobals "filled_leaf"=some (some (.ref f20))) (l20:K.lookup f20=some ⟨oc20,od20,.func (PySem.W.fnOf "filled_leaf" "filled_leaf" (aW iE) (aU iE) (aG iE) .none kV20 dc20 pm20 an20 cd20 ct20),sl20⟩) (c20:PySem.W.codeIn K cd20 "filled_leaf"=true) (k20:PySem.W.keepIn K (.ref f20)=true)
  (a21:PySem.W.nsIn K mainGlobals "do_row"=some (some (.ref f21))) (l21:K.lookup f21=some ⟨oc21,od21,.func (PySem.W.fnOf "do_row" "do_row" (aW nE) (aU nE) (aG nE) .none kV21 dc21 pm21 an21 cd21 ct21),sl21⟩) (c21:PySem.W.codeIn K cd21 "do_row"=true) (k21:PySem.W.keepIn K (.ref f21)=true)
  (a22:PySem.W.nsIn K mainGlobals "cells_behind"=some (some (.ref f22))) (l22:K.lookup f22=some ⟨oc22,od22,.func (PySem.W.fnOf "cells_behind" "cells_behind" (aW gU) (aU gU) (aG gU) .none kV22 dc22 pm22 an22 cd22 ct22),sl22⟩) (c22:PySem.W.codeIn K cd22 "cells_behind"=true) (k22:PySem.W.keepIn K (.ref f22)=true)
  (a23:PySem.W.nsIn K mainGlobals "behind"=some (some (.ref f23))) (l23:K.lookup f23=some ⟨oc23,od23,.func (PySem.W.fnOf "behind" "behind" (aW nG) (aU nG) (aG nG) .none kV23 dc23 pm23 an23 cd23 ct23),sl23⟩) (c23:PySem.W.codeIn K cd23 "behind"=true) (k23:PySem.W.keepIn K (.ref f23)=true)
  (a24:PySem.W.nsIn K mainGlobals "cell_words"=some (some (.ref f24))) (l24:K.lookup f24=some ⟨oc24,od24,.func (PySem.W.fnOf "cell_words" "cell_words" (aW iV) (aU iV) (aG iV) .none kV24 dc24 pm24 an24 cd24 ct24),sl24⟩) (c24:PySem.W.codeIn K cd24 "cell_words"=true) (k24:PySem.W.keepIn K (.ref f24)=true)
  (a25:PySem.W.nsIn K mainGlobals "_law_mixed"=some (some (.ref f25))) (l25:K.lookup f25=some ⟨oc25,od25,.func (PySem.W.fnOf "_law_mixed" "_law_mixed" (aW jV) (aU jV) (aG jV) .none kV25 dc25 pm25 an25 cd25 ct25),sl25⟩) (c25:PySem.W.codeIn K cd25 "_law_mixed"=true) (k25:PySem.W.keepIn K (.ref f25)=true)
  (a26:PySem.W.nsIn K mainGlobals "_law_draws"=some (some (.ref f26))) (l26:K.lookup f26=some ⟨oc26,od26,.func (PySem.W.fnOf "_law_draws" "_law_draws" (aW jQ) (aU jQ) (aG jQ) .none kV26 dc26 pm26 an26 cd26 ct26),sl26⟩) (c26:PySem.W.codeIn K cd26 "_law_draws"=true) (k26:PySem.W.keepIn K (.ref f26)=true)
  (a27:PySem.W.nsIn K mainGlobals "_law_great"=some (some (.ref f27))) (l27:K.lookup f27=some ⟨oc27,od27,.func (PySem.W.fnOf "_law_great" "_law_great" (aW jT) (aU jT) (aG jT) .none kV27 dc27 pm27 an27 cd27 ct27),sl27⟩) (c27:PySem.W.codeIn K cd27 "_law_great"=true) (k27:PySem.W.keepIn K (.ref f27)=true)
  (a28:PySem.W.nsIn K mainGlobals "_law_name"=some (some (.ref f28))) (l28:K.lookup f28=some ⟨oc28,od28,.func (PySem.W.fnOf "_law_name" "_law_name" (aW kT) (aU kT) (aG kT) .none kV28 dc28 pm28 an28 cd28 ct28),sl28⟩) (c28:PySem.W.codeIn K cd28 "_law_name"=true) (k28:PySem.W.keepIn K (.ref f28)=true)
  (a29:PySem.W.nsIn K mainGlobals "_law_leaf"=some (some (.ref f29))) (l29:K.lookup f29=some ⟨oc29,od29,.func (PySem.W.fnOf "_law_leaf" "_law_leaf" (aW kZ) (aU kZ) (aG kZ) .none kV29 dc29 pm29 an29 cd29 ct29),sl29⟩) (c29:PySem.W.codeIn K cd29 "_law_leaf"=true) (k29:PySem.W.keepIn K (.ref f29)=true)
  (a30:PySem.W.nsIn K mainGlobals "_law_pattern"=some (some (.ref f30))) (l30:K.lookup f30=some ⟨oc30,od30,.func (PySem.W.fnOf "_law_pattern" "_law_pattern" (aW iG) (aU iG) (aG iG) .none kV30 dc30 pm30 an30 cd30 ct30),sl30⟩) (c30:PySem.W.codeIn K cd30 "_law_pattern"=true) (k30:PySem.W.keepIn K (.ref f30)=true)
  (a31:PySem.W.nsIn K mainGlobals "_law_ends"=some (some (.ref f31))) (l31:K.lookup f31=some ⟨oc31,od31,.func (PySem.W.fnOf "_law_ends" "_law_ends" (aW jL) (aU jL) (aG jL) .none kV31 dc31 pm31 an31 cd31 ct31),sl31⟩) (c31:PySem.W.codeIn K cd31 "_law_ends"=true) (k31:PySem.W.keepIn K (.ref f31)=true)
  (a32:PySem.W.nsIn K mainGlobals "_law_laid"=some (some (.ref f32))) (l32:K.lookup f32=some ⟨oc32,od32,.func (PySem.W.fnOf "_law_laid" "_law_laid" (aW jK) (aU jK) (aG jK) .none kV32 dc32 pm32 an32 cd32 ct32),sl32⟩) (c32:PySem.W.codeIn K cd32 "_law_laid"=true) (k32:PySem.W.keepIn K (.ref f32)=true)
  (a33:PySem.W.nsIn K mainGlobals "_law_borne"=some (some (.ref f33))) (l33:K.lookup f33=some ⟨oc33,od33,.func (PySem.W.fnOf "_law_borne" "_law_borne" (aW jU) (aU jU) (aG jU) .none kV33 dc33 pm33 an33 cd33 ct33),sl33⟩) (c33:PySem.W.codeIn K cd33 "_law_borne"=true) (k33:PySem.W.keepIn K (.ref f33)=true)
  (a34:PySem.W.nsIn K mainGlobals "_law_same"=some (some (.ref f34))) (l34:K.lookup f34=some ⟨oc34,od34,.func (PySem.W.fnOf "_law_same" "_law_same" (aW jJ) (aU jJ) (aG jJ) .none kV34 dc34 pm34 an34 cd34 ct34),sl34⟩) (c34:PySem.W.codeIn K cd34 "_law_same"=true) (k34:PySem.W.keepIn K (.ref f34)=true)
  (a35:PySem.W.nsIn K mainGlobals "_law_bare"=some (some (.ref f35))) (l35:K.lookup f35=some ⟨oc35,od35,.func (PySem.W.fnOf "_law_bare" "_law_bare" (aW jD) (aU jD) (aG jD) .none kV35 dc35 pm35 an35 cd35 ct35),sl35⟩) (c35:PySem.W.codeIn K cd35 "_law_bare"=true) (k35:PySem.W.keepIn K (.ref f35)=true)
  (a36:PySem.W.nsIn K mainGlobals "_law_right"=some (some (.ref f36))) (l36:K.lookup f36=some ⟨oc36,od36,.func (PySem.W.fnOf "_law_right" "_law_right" (aW jW) (aU jW) (aG jW) .none kV36 dc36 pm36 an36 cd36 ct36),sl36⟩) (c36:PySem.W.codeIn K cd36 "_law_right"=true) (k36:PySem.W.keepIn K (.ref f36)=true)
  (a37:PySem.W.nsIn K mainGlobals "law"=some (some (.ref f37))) (l37:K.lookup f37=some ⟨oc37,od37,.func (PySem.W.fnOf "law" "law" (aW oU) (aU oU) (aG oU) .none kV37 dc37 pm37 an37 cd37 ct37),sl37⟩) (c37:PySem.W.codeIn K cd37 "law"=true) (k37:PySem.W.keepIn K (.ref f37)=true)
  (e0:PySem.W.nsIn K mainGlobals "LETTERS"=some (some (.str (vI) Io)))
  (e1:PySem.W.nsIn K mainGlobals "LONGEST_NAME"=some (some (.int (8) tk1)))
  (e2:PySem.W.nsIn K mainGlobals "GREATEST"=some (some (.int (1000000000000000000) tk2)))
  (e3:PySem.W.nsIn K mainGlobals "TREE_PIECES"=some (some (.int (200) tk3)))
  (e4:PySem.W.nsIn K mainGlobals "TREE_WITHIN"=some (some (.int (40) tk4)))
  (e5:PySem.W.nsIn K mainGlobals "CELLS"=some (some (.int (100) tk5)))
  {dt0:Addr} (ta0:PySem.W.nsIn K mainGlobals "SIGNS"=some (some (.ref dt0))) (tb0:KTD.tabLook KTD.flatLooks (fun b=>K.lookup b) dt0 (yN cE)=true) (tc0:KTD.hashesOf (fun b=>K.lookup b) dt0=(yN cE).map fun p=>(PySem.strKind l.prog w).hash p.1)
  (z0:PySem.W.nsIn K mainGlobals "len"=some none)
  (z1:PySem.W.nsIn K mainGlobals "isinstance"=some none)
  (z2:PySem.W.nsIn K mainGlobals "max"=some none)
  (z3:PySem.W.nsIn K mainGlobals "range"=some none)
  (z4:PySem.W.nsIn K mainGlobals "enumerate"=some none)
  (z5:PySem.W.nsIn K mainGlobals "int"=some none)
  (z6:PySem.W.nsIn K mainGlobals "bool"=some none)
  (z7:PySem.W.nsIn K mainGlobals "tuple"=some none)
  (z8:PySem.W.nsIn K mainGlobals "str"=some none)
  (z9:PySem.W.nsIn K mainGlobals "all"=some none)
  (z10:PySem.W.nsIn K mainGlobals "set"=some none)
  (z11:PySem.W.nsIn K mainGlobals "abs"=some none)
  (z12:PySem.W.nsIn K mainGlobals "list"=some none)
  (z13:PySem.W.nsIn K mainGlobals "zip"=some none)
  (z14:PySem.W.nsIn K mainGlobals "reversed"=some none)
  (z15:PySem.W.nsIn K mainGlobals "sorted"=some none)
  : ∃ fd:FuncData,(∀ (s:Shared) (v:Value),BindsTo s fd ⟨[v],[]⟩ [("script",v)])/\∀ base:Heap,K.In base->base.Ns mainGlobals mg->iO base mg->iZ l.prog w K mg base m5 16 fa fd ["script"] (fE K (wY Pt0)):=by
 have e:=hfa.symm.trans (PySem.W.mg_of X G a37)
 cases e
 have FT:=bK (st:=kP) l0 c0 k0
 have Fh:=PySem.W.mg_of X G a0
 have C3:=bK (st:=jR) l1 c1 k1
 have Co:=PySem.W.mg_of X G a1
 have He:=bK (st:=lU) l2 c2 k2
 have Ir:=PySem.W.mg_of X G a2
 have Fm:=bK (st:=kX) l3 c3 k3
 have Ek:=PySem.W.mg_of X G a3
 have Fn:=bK (st:=kJ) l4 c4 k4
 have FJ:=PySem.W.mg_of X G a4
 have CB:=bK (st:=iN) l5 c5 k5
 have C8:=PySem.W.mg_of X G a5
 have Ef:=bK (st:=kR) l6 c6 k6
 have EB:=PySem.W.mg_of X G a6
 have F2:=bK (st:=jA) l7 c7 k7
 have oV:=PySem.W.mg_of X G a7
 have HF:=bK (st:=lZ) l8 c8 k8
 have HE:=PySem.W.mg_of X G a8
 have yO:=bK (st:=gW) l9 c9 k9
 have nD:=PySem.W.mg_of X G a9
 have Ig:=bK (st:=mG) l10 c10 k10
 have HJ:=PySem.W.mg_of X G a10
 have MK:=bK (st:=pE) l11 c11 k11
 have L8:=PySem.W.mg_of X G a11
 have Jw:=bK (st:=m7) l12 c12 k12
 have JJ:=PySem.W.mg_of X G a12
 have GV:=bK (st:=mB) l13 c13 k13
 have GY:=PySem.W.mg_of X G a13
 have PN:=bK (st:=rQ) l14 c14 k14
 have Pk:=PySem.W.mg_of X G a14
 have KR:=bK (st:=nQ) l15 c15 k15
 have JO:=PySem.W.mg_of X G a15
 have C1:=bK (st:=jY) l16 c16 k16
 have CH:=PySem.W.mg_of X G a16
 have Cw:=bK (st:=jS) l17 c17 k17
 have CO:=PySem.W.mg_of X G a17
 have Ea:=bK (st:=kW) l18 c18 k18
 have EM:=PySem.W.mg_of X G a18
 have JQ:=bK (st:=jF) l19 c19 k19
 have JD:=PySem.W.mg_of X G a19
 have Aj:=bK (st:=iE) l20 c20 k20
 have Ax:=PySem.W.mg_of X G a20
 have J4:=bK (st:=nE) l21 c21 k21
 have IU:=PySem.W.mg_of X G a21
 have yZ:=bK (st:=gU) l22 c22 k22
 have yP:=PySem.W.mg_of X G a22
 have KQ:=bK (st:=nG) l23 c23 k23
 have Ja:=PySem.W.mg_of X G a23
 have BS:=bK (st:=iV) l24 c24 k24
 have BY:=PySem.W.mg_of X G a24
 have C4:=bK (st:=jV) l25 c25 k25
 have Df:=PySem.W.mg_of X G a25
 have CS:=bK (st:=jQ) l26 c26 k26
 have Di:=PySem.W.mg_of X G a26
 have CA:=bK (st:=jT) l27 c27 k27
 have C5:=PySem.W.mg_of X G a27
 have Em:=bK (st:=kT) l28 c28 k28
 have Fb:=PySem.W.mg_of X G a28
 have Gd:=bK (st:=kZ) l29 c29 k29
 have EL:=PySem.W.mg_of X G a29
 have Aq:=bK (st:=iG) l30 c30 k30
 have As:=PySem.W.mg_of X G a30
 have Fp:=bK (st:=jL) l31 c31 k31
 have FY:=PySem.W.mg_of X G a31
 have FE:=bK (st:=jK) l32 c32 k32
 have Fg:=PySem.W.mg_of X G a32
 have Dd:=bK (st:=jU) l33 c33 k33
 have CW:=PySem.W.mg_of X G a33
 have Fq:=bK (st:=jJ) l34 c34 k34
 have FN:=PySem.W.mg_of X G a34
 have E1:=bK (st:=jD) l35 c35 k35
 have Gh:=PySem.W.mg_of X G a35
 have CT:=bK (st:=jW) l36 c36 k36
 have C6:=PySem.W.mg_of X G a36
 have Ql:=bK (st:=oU) l37 c37 k37
 have RR:=PySem.W.mg_of X G a37
 have uV:=PySem.W.mg_of X G e0
 have m9:=PySem.W.mg_of X G e1
 have tM:=PySem.W.mg_of X G e2
 have oD:=PySem.W.mg_of X G e3
 have oF:=PySem.W.mg_of X G e4
 have yX:=PySem.W.mg_of X G e5
 have eS:=PySem.W.mg_of X G ta0
 have eQ:mK l.prog w K dt0 cE:=tab_of (by decide +kernel) tb0 tc0
 have bU:=PySem.W.mg_none_of X G z0
 have aO:=PySem.W.mg_none_of X G z1
 have sV:=PySem.W.mg_none_of X G z2
 have yG:=PySem.W.mg_none_of X G z3
 have bW:=PySem.W.mg_none_of X G z4
 have kO:=PySem.W.mg_none_of X G z5
 have jN:=PySem.W.mg_none_of X G z6
 have bA:=PySem.W.mg_none_of X G z7
 have kL:=PySem.W.mg_none_of X G z8
 have o4:=PySem.W.mg_none_of X G z9
 have ES:=PySem.W.mg_none_of X G z10
 have AO:=PySem.W.mg_none_of X G z11
 have d5:=PySem.W.mg_none_of X G z12
 have kY:=PySem.W.mg_none_of X G z13
 have o3:=PySem.W.mg_none_of X G z14
 have vZ:=PySem.W.mg_none_of X G z15
 refine ⟨PySem.W.fnOf "law" "law" (aW oU) (aU oU) (aG oU) .none kV37 dc37 pm37 an37 cd37 ct37,fun s v=>.of_eq rfl,fun base _ _ hB=>?_⟩
 have c1:∀ base,Callee l.prog w K mg base 1 "parts_of" jC []:=fun base=>Cs Fn FJ eQ eS
 have b0:=xK CB C8 bW (c1 base) 6
 have b1:=Cp Ef EB (c1 base)
 have b2:=Kv MK L8 b0 b1
 have b3:=GZ Jw JJ eQ eS b0 b1
 have i0:=BO (P:=l.prog) (w:=w) (base:=base) FT Fh aO kO jN
 have i1:=Cg C3 Co tM i0
 have i2:=FI (P:=l.prog) (w:=w) (base:=base) He Ir aO bA bU kL eQ eS
 have i3:=Gp (P:=l.prog) (w:=w) (base:=base) HF HE bU aO kL o4 uV m9
 have i4:=(x9 yO aO bA bU i1 i3).f
 have i5:=Cz (ka:=2) Fm Ek i2 i4
 have i6:=Fw Ig HJ nD oD oF i5
 have r0:=Ks PN Pk i3 i0
 have r1:=FW GV GY yX i0
 have r2:=B1 C1 CH aO bA bU o4 kY b3 r0
 have r3:=BC Cw CO aO bA bU o4 ES b2 r1
 have r4:=Gu KR JO aO bA bU i0 r1 r2 r3
 have r5:=CZ Ea EM kY b2
 have f0:=G0 JQ rfl JD q19 hB d5 o3 bA oV k7 (fun base fl s fl' s' _ A A'=>Aa F2 oV eQ eS A A' (c1 base) 6) (fun base _=>yC Aj Ax)
 have d0:=Iv J4 IU r4 r5 f0 i6
 have d1:=Kr yZ yP bW vZ d0
 have d2:=G7 KQ Ja d1
 have d3:=KY BS BY d1
 have l0:=Kt (P:=l.prog) (w:=w) (base:=base) C4 Df
 have l1:=IE CS Di AO yG l0
 have l2:=IH (P:=l.prog) (w:=w) (base:=base) CA C5
 have l3:=Mk (P:=l.prog) (w:=w) (base:=base) Em Fb
 have l4:=EN Aq As bU sV kO (MN Gd EL bU sV l2)
 have l5:=BF (P:=l.prog) (w:=w) (base:=base) Fp FY bW 6
 have l6:=J8 Dd CW bW l3 l0 l2
 have l7:=Cn (P:=l.prog) (w:=w) (base:=base) FE Fg bA 6
 have l8:=B9 (P:=l.prog) (w:=w) (base:=base) E1 Gh bA 5
 have l9:=BL (P:=l.prog) (w:=w) (base:=base) Fq FN aO bA d5 bU kY jN kO kL 12
 have l10:=JF CT C6 bU bA d5 l1 l4 l8 l5 l6 l7 l9 d2 d3
 exact Oo Ql d5 l10 l9 d2 d3
theorem Io {K:PySem.W.Frag} {f c Pt:Addr} {od an:Option Addr} {sl:Array (Option Value)} {oc kV dc pm ct:Value} (n:K.lookup Pt=none) (a:PySem.W.nsIn K mainGlobals "filled"=some (some (.ref f))) (lk:K.lookup f=some ⟨oc,od,.func (PySem.W.fnOf "filled" "filled" (aW jF) (aU jF) (aG jF) .none kV dc pm an (.ref c) ct),sl⟩) (q:PySem.W.codeHdIn K c Pt=true):K.lookup Pt=none/\∃ c,PySem.W.codeHdIn K c Pt=true:=⟨n,c,q⟩
theorem Hm {K:PySem.W.Frag} {H:Hp} {a:Addr} {ns:List Int} {E:XK} (hl:ns.length<=63) (hS:eO K H a (ns.map V.int)) (hT:∀ p∈[(166:Addr)],H p=some (.tbl #[])):fE K (wY (166:Addr)) [.ref a] H (fun v _=>v=.bl true) E :=
 Oh (ts:=[((166:Addr),QF)]) hS hT (by decide +kernel) ⟨ns,rfl,hl,rfl,rfl⟩
theorem walk {l:PySem.W.OpenLaw} {q:Program} {loose:List Str} {XP:(Str->Option Value)->Heap->Prop} {YP:World->Heap->Prop} {d:DefRec} {K:Params->PySem.W.Frag} (hn:l.most=some 63) (hdf:d.params.defaults=[])
  (hY:∀ (w:World) (h:Heap),YP w h->(K w.params).In h/\∀ P∈[(166:Addr)],h.get? P=some (PySem.W.tabObj #[]))
  (hTK:∀ (w:World),∀ P∈[(166:Addr)],(K w.params).lookup P=none/\∃ c,PySem.W.codeHdIn (K w.params) c P=true)
  (F:∀ (w:World) (mg:Str->Option Value) (fa:Addr) (h:Heap),(K w.params).In h->h.Ns mainGlobals mg->mg d.name=some (.ref fa) ->
   ∃ fd:FuncData,(∀ (s:Shared) (u:Value),BindsTo s fd ⟨[u],[]⟩ [("script",u)])/\∀ base:Heap,(K w.params).In base->base.Ns mainGlobals mg->iO base mg->iZ l.prog w (K w.params) mg base m5 16 fa fd ["script"] (fE (K w.params) (wY (166:Addr)))) :
  PySem.W.WalkO q loose XP YP l.row.toRowW d [] (fun f vs=>PySem.call f vs) :=
 Kx (n:=63) (k:=16) (x:="script") (ts:=[(166:Addr)]) (sp:=fun w=>fE (K w.params) (wY (166:Addr))) hn (by decide) hdf ⟨rfl,by decide,by decide⟩ hY hTK F (fun w H a ns hl _ hS hT=>Hm hl hS hT)
end K36
namespace PySem.W.Fast
def tw10087666679081404602:=0
def tw10097219042219831000:=0
def tw10172609936090834565:=0
def tw10216439819613167000:=0
def tw10245666873993332616:=0
def tw10258929721397196789:=0
def tw10401374684361569205:=0
def tw10413353224528285838:=0
def tw10426428700451292290:=0
def tw10706355928525569093:=0
def tw10739646575797007777:=0
def tw10855733678901425393:=0
def tw10885118502421934962:=0
def tw10983119982256384567:=0
def tw11004923332083558084:=0
def tw11034198161748770268:=0
def tw11296503640467234652:=0
def tw11334161422994901770:=0
def tw11375705572502229594:=0
def tw11376644104429088692:=0
def tw11399061567492465345:=0
def tw1140810988944352254:=0
def tw11419729470743753438:=0
def tw11465926950703610661:=0
def tw11471552775703126461:=0
def tw11501162373777470564:=0
def tw11515941633668797130:=0
def tw11564041713801595842:=0
def tw11579510047023421279:=0
def tw11579697437520727414:=0
def tw11625687478928732295:=0
def tw11728951361756273618:=0
def tw11796839799633035137:=0
def tw11822565539676382774:=0
def tw11875847895389023137:=0
def tw1194942738657035105:=0
def tw11980794722579276321:=0
def tw12035279652629427949:=0
def tw12036074473207783715:=0
def tw12129959024165523196:=0
def tw12175260226687076646:=0
def tw12253778368768950619:=0
def tw12264820549609113762:=0
def tw12312517442184798436:=0
def tw12333647805986300713:=0
def tw12401749947844131745:=0
def tw12466330962188386436:=0
def tw12490503480673085890:=0
def tw12632092222403241839:=0
def tw12641828941001325334:=0
def tw12678930946288406408:=0
def tw12848015312718300375:=0
def tw1285086498984029860:=0
def tw13045677950536826091:=0
def tw13063634176674634200:=0
def tw13112830552333039285:=0
def tw1313546364285472396:=0
def tw13157819506025311477:=0
def tw13204184605277933974:=0
def tw13210467698558809763:=0
def tw13278829886798479578:=0
def tw13502102565443614190:=0
def tw1359134776725275293:=0
def tw13715669138708077191:=0
def tw13837004483128641622:=0
def tw13849757112180031874:=0
def tw13852664867387590005:=0
def tw13891325816114503783:=0
def tw13950328650520679754:=0
def tw13968123844015040518:=0
def tw13998594967941062958:=0
def tw14030127146340129407:=0
def tw14051282866874023380:=0
def tw14113077459320892074:=0
def tw14164138503485541287:=0
def tw1430439775427696219:=0
def tw14322525771577326844:=0
def tw14420118045247716099:=0
def tw14432925620938078349:=0
def tw14442882814157932749:=0
def tw14611071863775904894:=0
def tw14693114414895406367:=0
def tw14751347156437861383:=0
def tw14762921788318169703:=0
def tw14787031780359098478:=0
def tw14809835130303271589:=0
def tw14921543297882505405:=0
def tw14931512027799531414:=0
def tw14940231260605857177:=0
def tw14989923540568562161:=0
def tw1505785688213854111:=0
def tw1537713883329134589:=0
def tw15433005110447477966:=0
def tw15462204026659460180:=0
def tw15519171796112370255:=0
def tw15578377562463022317:=0
def tw15610030089807616238:=0
def tw15657164544656443602:=0
def tw15665556021275508004:=0
def tw15815620928077840596:=0
def tw1592848515474469672:=0
def tw15942927513985797285:=0
def tw16176690470306344571:=0
def tw16258174964085080352:=0
def tw16313245886712575276:=0
def tw16321588308678162706:=0
def tw16351712761307255509:=0
def tw16367833735159218851:=0
def tw16540543703971556442:=0
def tw16678529160100492599:=0
def tw16697018324999338837:=0
def tw16717772374388456560:=0
def tw16885901817347833562:=0
def tw16959666707742243551:=0
def tw17061981702806866213:=0
def tw17301401985273272130:=0
def tw17304137566794526303:=0
def tw17344059368008305072:=0
def tw17469558632586644468:=0
def tw17537437888357422655:=0
def tw17556687056970154539:=0
def tw17722137405888190279:=0
def tw1779989918950437197:=0
def tw17804612129758239179:=0
def tw17836861786733446083:=0
def tw1807638658393750369:=0
def tw18139979894551603598:=0
def tw18238285086388148519:=0
def tw18266398114715846489:=0
def tw1847304383939764514:=0
def tw1947319929498250369:=0
def tw2169426039178366612:=0
def tw2181496018083581695:=0
def tw2247041170313994887:=0
def tw234739774350316055:=0
def tw2389382777183204188:=0
def tw2488474792240492158:=0
def tw2520646337097441882:=0
def tw2595969709052775924:=0
def tw2692434304841297959:=0
def tw2853575974039701382:=0
def tw2923326302121934809:=0
def tw2930605645219429791:=0
def tw3028583353363267167:=0
def tw3045939409237434160:=0
def tw3140656797462134500:=0
def tw315996160489084081:=0
def tw3199285913779488533:=0
def tw3231762652448733297:=0
def tw3250627542288791267:=0
def tw3261323662687141947:=0
def tw3330743468949880726:=0
def tw3377361370187609117:=0
def tw339822052406871134:=0
def tw3621145501113648403:=0
def tw3639107311403353078:=0
def tw3649326906338103014:=0
def tw3690950205368761257:=0
def tw3695446999000972297:=0
def tw3776893739839350824:=0
def tw3899015572558550327:=0
def tw3919070560200250922:=0
def tw3945824560662745184:=0
def tw4258244368755762571:=0
def tw442675315363179383:=0
def tw4503234685396598988:=0
def tw4587884517096251805:=0
def tw4633007009592086320:=0
def tw4732878009145700103:=0
def tw4740786017390805579:=0
def tw4774629466582337575:=0
def tw4795770229554320078:=0
def tw482439749084050984:=0
def tw4836605291718425175:=0
def tw484868733554939644:=0
def tw4880994473675846341:=0
def tw4887366937058046604:=0
def tw489548480527426479:=0
def tw4918439779374965208:=0
def tw4960354629346761381:=0
def tw5115959674586656321:=0
def tw5162566927502605604:=0
def tw5191659895247278299:=0
def tw528619339998283325:=0
def tw5296401160300228780:=0
def tw5440425804449430975:=0
def tw5515065117161837956:=0
def tw559179675484327656:=0
def tw5618480731275109795:=0
def tw5623626233202136365:=0
def tw5649186605310081554:=0
def tw5655884123487712846:=0
def tw5707860600017678882:=0
def tw5733194966637739189:=0
def tw5761147622380083237:=0
def tw5851486122057789898:=0
def tw5931731161414776341:=0
def tw5943326903530638452:=0
def tw5994338782872533692:=0
def tw6016426971564309442:=0
def tw6147845367902217542:=0
def tw6154515150490647370:=0
def tw6213882714583910333:=0
def tw6237712317826646780:=0
def tw6323344237500236979:=0
def tw6408444520244027019:=0
def tw6421772270275504034:=0
def tw6546046425294137073:=0
def tw6580121399719989308:=0
def tw6581400921864079165:=0
def tw6590355671134582082:=0
def tw6714257827762807950:=0
def tw678508827486918950:=0
def tw6891551752619493372:=0
def tw6940684711252772658:=0
def tw6986547636815396623:=0
def tw7010357846598575504:=0
def tw7079983948250826522:=0
def tw7114089388143800023:=0
def tw7168182231407601742:=0
def tw7227444028424316669:=0
def tw7264764910882995516:=0
def tw7278049421468038700:=0
def tw7334882406910401833:=0
def tw7335402729354479176:=0
def tw7384716672964205862:=0
def tw7660996825254647629:=0
def tw7729495899589603555:=0
def tw7846397657115481826:=0
def tw7873706081226706265:=0
def tw7933714490654895068:=0
def tw7934609743473038187:=0
def tw7946711670814100167:=0
def tw804509846848345949:=0
def tw8050967157883055506:=0
def tw8105833489813364830:=0
def tw8194861901575035612:=0
def tw8214768797702346824:=0
def tw8224339629425067622:=0
def tw8234177917803515704:=0
def tw8463829519875090001:=0
def tw8520942974662242364:=0
def tw856192792756490905:=0
def tw8581713335349308334:=0
def tw8641405460804984830:=0
def tw866894297314903998:=0
def tw8727439049335707249:=0
def tw8905053823258417645:=0
def tw8915034292439609096:=0
def tw8947608772548239470:=0
def tw9010056957630075207:=0
def tw9089970239646283525:=0
def tw9102340584469398491:=0
def tw9166916772293246249:=0
def tw9253619198679527589:=0
def tw9343567780546451696:=0
def tw9372160408309622699:=0
def tw9384422484771259667:=0
def tw9403589228913966300:=0
def tw9411190758541743613:=0
def tw94326015359843444:=0
def tw9574847541771343584:=0
def tw9583550544940256787:=0
def tw9614821978977451538:=0
def tw9751900325687902439:=0
def tw9911124487438757378:=0
def tw9942073623327352040:=0
end PySem.W.Fast
open PySem PySem.W PyProof.Rows
set_option maxRecDepth 100000 in
set_option maxHeartbeats 0 in
theorem PySem.Challenge.cw_rowsmith_k36_one_row_holds : PySem.Challenge.rw_rowsmith_k36_one_row.Holds := by
 w_on;o_law;k_head;(case hw=>w_witness2)
 k_fill
 refine K36.walk (l:=PySem.Challenge.rw_rowsmith_k36_one_row) rfl rfl (fun w h Y=>⟨PySem.W.km_in_of Y,PySem.W.km_tabs_of Y⟩) ?T ?F
 case T =>
  intro w P hP
  simp only [List.mem_cons,List.not_mem_nil,or_false] at hP
  rcases hP with rfl
  ·refine' K36.Io ?tkn ?tka ?tkl ?tkq
   (case tkn=>kernel_rfl)
   (case tka=>k_is)
   (case tkl=>k_is)
   (case tkq=>kernel_rfl)
 case F =>
  intro w mg fa h KX G hmg
  refine' K36.all_mk (166:Addr) KX G hmg ?a0 ?l0 ?c0 ?k0 ?a1 ?l1 ?c1 ?k1 ?a2 ?l2 ?c2 ?k2 ?a3 ?l3 ?c3 ?k3 ?a4 ?l4 ?c4 ?k4 ?a5 ?l5 ?c5 ?k5 ?a6 ?l6 ?c6 ?k6 ?a7 ?l7 ?c7 ?k7 ?a8 ?l8 ?c8 ?k8 ?a9 ?l9 ?c9 ?k9 ?a10 ?l10 ?c10 ?k10 ?a11 ?l11 ?c11 ?k11 ?a12 ?l12 ?c12 ?k12 ?a13 ?l13 ?c13 ?k13 ?a14 ?l14 ?c14 ?k14 ?a15 ?l15 ?c15 ?k15 ?a16 ?l16 ?c16 ?k16 ?a17 ?l17 ?c17 ?k17 ?a18 ?l18 ?c18 ?k18 ?a19 ?l19 ?c19 ?k19 ?q19 ?a20 ?l20 ?c20 ?k20 ?a21 ?l21 ?c21 ?k21 ?a22 ?l22 ?c22 ?k22 ?a23 ?l23 ?c23 ?k23 ?a24 ?l24 ?c24 ?k24 ?a25 ?l25 ?c25 ?k25 ?a26 ?l26 ?c26 ?k26 ?a27 ?l27 ?c27 ?k27 ?a28 ?l28 ?c28 ?k28 ?a29 ?l29 ?c29 ?k29 ?a30 ?l30 ?c30 ?k30 ?a31 ?l31 ?c31 ?k31 ?a32 ?l32 ?c32 ?k32 ?a33 ?l33 ?c33 ?k33 ?a34 ?l34 ?c34 ?k34 ?a35 ?l35 ?c35 ?k35 ?a36 ?l36 ?c36 ?k36 ?a37 ?l37 ?c37 ?k37 ?e0 ?e1 ?e2 ?e3 ?e4 ?e5 ?ta0 ?tb0 ?tc0 ?z0 ?z1 ?z2 ?z3 ?z4 ?z5 ?z6 ?z7 ?z8 ?z9 ?z10 ?z11 ?z12 ?z13 ?z14 ?z15
  (case a0=>k_is)
  (case l0=>k_is)
  (case c0=>k_is)
  (case k0=>k_is)
  (case a1=>k_is)
  (case l1=>k_is)
  (case c1=>k_is)
  (case k1=>k_is)
  (case a2=>k_is)
  (case l2=>k_is)
  (case c2=>k_is)
  (case k2=>k_is)
  (case a3=>k_is)
  (case l3=>k_is)
  (case c3=>k_is)
  (case k3=>k_is)
  (case a4=>k_is)
  (case l4=>k_is)
  (case c4=>k_is)
  (case k4=>k_is)
  (case a5=>k_is)
  (case l5=>k_is)
  (case c5=>k_is)
  (case k5=>k_is)
  (case a6=>k_is)
  (case l6=>k_is)
  (case c6=>k_is)
  (case k6=>k_is)
  (case a7=>k_is)
  (case l7=>k_is)
  (case c7=>k_is)
  (case k7=>k_is)
  (case a8=>k_is)
  (case l8=>k_is)
  (case c8=>k_is)
  (case k8=>k_is)
  (case a9=>k_is)
  (case l9=>k_is)
  (case c9=>k_is)
  (case k9=>k_is)
  (case a10=>k_is)
  (case l10=>k_is)
  (case c10=>k_is)
  (case k10=>k_is)
  (case a11=>k_is)
  (case l11=>k_is)
  (case c11=>k_is)
  (case k11=>k_is)
  (case a12=>k_is)
  (case l12=>k_is)
  (case c12=>k_is)
  (case k12=>k_is)
  (case a13=>k_is)
  (case l13=>k_is)
  (case c13=>k_is)
  (case k13=>k_is)
  (case a14=>k_is)
  (case l14=>k_is)
  (case c14=>k_is)
  (case k14=>k_is)
  (case a15=>k_is)
  (case l15=>k_is)
  (case c15=>k_is)
  (case k15=>k_is)
  (case a16=>k_is)
  (case l16=>k_is)
  (case c16=>k_is)
  (case k16=>k_is)
  (case a17=>k_is)
  (case l17=>k_is)
  (case c17=>k_is)
  (case k17=>k_is)
  (case a18=>k_is)
  (case l18=>k_is)
  (case c18=>k_is)
  (case k18=>k_is)
  (case a19=>k_is)
  (case l19=>k_is)
  (case c19=>k_is)
  (case k19=>k_is)
  (case q19=>kernel_rfl)
  (case a20=>k_is)
  (case l20=>k_is)
  (case c20=>k_is)
  (case k20=>k_is)
  (case a21=>k_is)
  (case l21=>k_is)
  (case c21=>k_is)
  (case k21=>k_is)
  (case a22=>k_is)
  (case l22=>k_is)
  (case c22=>k_is)
  (case k22=>k_is)
  (case a23=>k_is)
  (case l23=>k_is)
  (case c23=>k_is)
  (case k23=>k_is)
  (case a24=>k_is)
  (case l24=>k_is)
  (case c24=>k_is)
  (case k24=>k_is)
  (case a25=>k_is)
  (case l25=>k_is)
  (case c25=>k_is)
  (case k25=>k_is)
  (case a26=>k_is)
  (case l26=>k_is)
  (case c26=>k_is)
  (case k26=>k_is)
  (case a27=>k_is)
  (case l27=>k_is)
  (case c27=>k_is)
  (case k27=>k_is)
  (case a28=>k_is)
  (case l28=>k_is)
  (case c28=>k_is)
  (case k28=>k_is)
  (case a29=>k_is)
  (case l29=>k_is)
  (case c29=>k_is)
  (case k29=>k_is)
  (case a30=>k_is)
  (case l30=>k_is)
  (case c30=>k_is)
  (case k30=>k_is)
  (case a31=>k_is)
  (case l31=>k_is)
  (case c31=>k_is)
  (case k31=>k_is)
  (case a32=>k_is)
  (case l32=>k_is)
  (case c32=>k_is)
  (case k32=>k_is)
  (case a33=>k_is)
  (case l33=>k_is)
  (case c33=>k_is)
  (case k33=>k_is)
  (case a34=>k_is)
  (case l34=>k_is)
  (case c34=>k_is)
  (case k34=>k_is)
  (case a35=>k_is)
  (case l35=>k_is)
  (case c35=>k_is)
  (case k35=>k_is)
  (case a36=>k_is)
  (case l36=>k_is)
  (case c36=>k_is)
  (case k36=>k_is)
  (case a37=>k_is)
  (case l37=>k_is)
  (case c37=>k_is)
  (case k37=>k_is)
  (case e0=>k_is)
  (case e1=>k_is)
  (case e2=>k_is)
  (case e3=>k_is)
  (case e4=>k_is)
  (case e5=>k_is)
  (case ta0=>k_is)
  (case tb0=>kernel_rfl)
  (case tc0=>kernel_rfl)
  (case z0=>k_is)
  (case z1=>k_is)
  (case z2=>k_is)
  (case z3=>k_is)
  (case z4=>k_is)
  (case z5=>k_is)
  (case z6=>k_is)
  (case z7=>k_is)
  (case z8=>k_is)
  (case z9=>k_is)
  (case z10=>k_is)
  (case z11=>k_is)
  (case z12=>k_is)
  (case z13=>k_is)
  (case z14=>k_is)
  (case z15=>k_is)
#print axioms PySem.Challenge.cw_rowsmith_k36_one_row_holds