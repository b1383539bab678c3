import PyProof.Rows.All
import Wide.All
import OpenK.AllK
import Wide.FinOn
import Lean
import PyProof.EqAt
import PyProof.EqKinds
import PyProof.TupleCall
import PySem.Challenge.RW_rowsmith_k28_labels_are_least_prices
import PyProof.TupleKey
import KE.KRevIter
import PyProof.ListRange
import PyProof.CollectIter
import PyProof.Rows.SortWalk
import PyProof.ListMulRoad
import PyProof.AutoListH
import PyProof.IsiH_list
import PyProof.TupleOfGen
import PyProof.EnumMake
set_option linter.all false
set_option maxRecDepth 100000
set_option maxHeartbeats 4000000
namespace PySem
open Sem (wp)
section
variable {prog:Program} {w:World} {K:Type} [DecidableEq K] (knd:KeyKind prog w K)
def dF (h:Heap) (x:List K × K) (a:Addr):Prop:=∃ o n b v,h.get? a=some o/\o.cls=.type "tuple"/\o.data=.seq #[.ref b,v] n/\IsTupleKey knd h x.1 b/\knd.is x.2 v=true
variable {knd}
theorem dF.typeIs {s:Shared} {x:List K × K} {a:Addr} (p:dF knd s.heap x a):s.TypeIs (.ref a) "tuple":=let ⟨o,_,_,_,ho,hc,_⟩:=p;⟨o,ho,hc⟩
theorem dF.inj {h:Heap} {a:Addr} {x y:List K × K} (hx:dF knd h x a) (hy:dF knd h y a):x=y:=by
 obtain ⟨o,n,b,v,ho,_,hd,h1,h2⟩:=hx
 obtain ⟨o',n',b',v',ho',_,hd',h1',h2'⟩:=hy
 obtain rfl:o=o':=Option.some.inj (ho.symm.trans ho')
 rw [hd] at hd'
 injection hd' with e _
 have e1:(.ref b:Value)=.ref b'/\v=v':=by simpa using e
 obtain ⟨e2,rfl⟩:=e1
 cases e2
 exact Prod.ext (h1.inj h1') (knd.inj _ _ _ h2 h2')
theorem dF.keeps {h h':Heap} {x:List K × K} {a d:Addr} {o:Obj} {es ep} (p:dF knd h x a) (ho:h.get? d=some o) (hd:o.data=.dict es ep) (hs:Heap.SameBut d h h'):dF knd h' x a:=by
 obtain ⟨o',n,b,v,ho',hc,hd',h1,h2⟩:=p
 have hne:a≠d:=by
  rintro rfl
  obtain rfl:o'=o:=Option.some.inj (ho'.symm.trans ho)
  rw [hd] at hd';exact nomatch hd'
 exact ⟨o',n,b,v,(hs.2 a hne).trans ho',hc,hd',h1.keeps ho hd hs,h2⟩
def qT (knd:KeyKind prog w K) (x:List K × K):Int:=reduceHash (Builtin.Tuple.tupleHashOf [tupleKeyHash knd x.1,knd.hash x.2])
variable {A:Around} {E:Value->Shared->Prop} {s:Shared}
theorem wI {x:List K × K} {a:Addr} {Q:Int->Shared->Prop} (hu:A.units + 1 < cLine) (hk:dF knd s.heap x a) (h:Q (qT knd x) { s with toks:=s.toks + (x.1.length + 3) }) :
  wpAny (model prog w) A (pyHash (.ref a)) Q E s:=by
 have hT:=hk.typeIs
 obtain ⟨o,n,b,v,ho,_,hd,h1,h2⟩:=hk
 unfold pyHash
 first | unfold pyHashByItsType | skip
 first | refine wpAny_bind (wpAny_cRoomFor_or (.inr (by omega)) ?_) | skip
 refine wpAny_bind (wpAny_specialOf hT F.slot_tuple_hash.lookup ?_)
 show wpAny _ _ (if (some (Value.builtin "tuple.__hash__") == some Value.none)=true then _ else _) Q E s
 rw [if_neg (by rw [beq_builtin_none];exact Bool.false_ne_true)]
 refine wpAny_bind (wpAny_specialOf hT F.slot_tuple_hash.lookup ?_)
 show wpAny _ _ (callSpecialIfBoundUnlessNone? (.ref a) "__hash__" _ >>= _) Q E s
 refine wpAny_bind (wpAny_callSpecialIfBoundUnlessNone?_slot hT F.slot_tuple_hash (wpAny_call_entry F.slot_tuple_hash hT F.entry_tuple_hash ?_ (F.args_tuple_hash_1 _)))
 show wpAny _ _ (Builtin.Tuple.tupleItemsOf (.ref a) >>= _) _ _ s
 refine wpAny_bind (wpAny_tupleItemsOf ho hd ?_)
 refine wpAny_bind ?_
 rw [<- Array.forIn_toList]
 refine wpAny_forIn_list _
  (fun rest (r:Array Int) s'=>(rest=[.ref b,v]/\r.toList=[]/\s'=s)\/(rest=[v]/\r.toList=[tupleKeyHash knd x.1]/\s'={ s with toks:=s.toks + (x.1.length + 1) })\/(rest=[]/\r.toList=[tupleKeyHash knd x.1,knd.hash x.2]/\s'={ s with toks:=s.toks + (x.1.length + 1) + 1 }))
  _ ?_ ?_ _ _ (.inl ⟨rfl,rfl,rfl⟩)
 ·rintro y rest r s' (⟨hr,hb,rfl⟩ | ⟨hr,hb,rfl⟩ | ⟨hr,_⟩)
  ·cases hr
   refine wpAny_bind (wpAny_pyHash_tuple (by first | exact hu | (show A.units + 1 < cLine;exact hu)) h1 ?_)
   first
    | exact wpAny_pure (.inr (.inl ⟨rfl,by simp [hb],rfl⟩))
    | exact wpAny_bind (wpAny_pure (wpAny_pure (.inr (.inl ⟨rfl,by simp [hb],rfl⟩))))
  ·cases hr
   refine wpAny_bind (knd.pyHash h2 ?_)
   first
    | exact wpAny_pure (.inr (.inr ⟨rfl,by simp [hb],rfl⟩))
    | exact wpAny_bind (wpAny_pure (wpAny_pure (.inr (.inr ⟨rfl,by simp [hb],rfl⟩))))
  ·cases hr
 ·rintro r s' (⟨hr,_⟩ | ⟨hr,_⟩ | ⟨_,hb,rfl⟩)
  ·cases hr
  ·cases hr
  ·show wpAny _ _ (retInt (Builtin.Tuple.tupleHashOf r.toList)) _ _ _
   rw [hb]
   refine wpAny_ret_mkInt ?_
   show wpAny _ _ (if (decide (-(2:Int) ^ 63<=Builtin.Tuple.tupleHashOf [tupleKeyHash knd x.1,knd.hash x.2]) && decide (Builtin.Tuple.tupleHashOf [tupleKeyHash knd x.1,knd.hash x.2] < 2 ^ 63))=true then _ else _) Q E _
   unfold qT reduceHash at h
   by_cases hr:(decide (-(2:Int) ^ 63<=Builtin.Tuple.tupleHashOf [tupleKeyHash knd x.1,knd.hash x.2]) && decide (Builtin.Tuple.tupleHashOf [tupleKeyHash knd x.1,knd.hash x.2] < 2 ^ 63))=true
   ·rw [if_pos hr]
    rw [if_pos hr] at h
    exact wpAny_pure (by simpa [Nat.add_assoc] using h)
   ·rw [if_neg hr]
    rw [if_neg hr] at h
    exact wpAny_bind (wpAny_rule (wpAny_pure (by simpa [Nat.add_assoc] using h)))
theorem Cy {x y:List K × K} {a b:Addr} {P:Fin->Shared->Prop} (hu:A.units < cLine) (hx:dF knd s.heap x a) (hy:dF knd s.heap y b) (h:P (.done (.ret (.bool (decide (x=y))))) s) :
  wpAny (model prog w) A (Builtin.«tuple.__eq__» ⟨[.ref a,.ref b],[]⟩) P E s:=by
 have hTb:=hy.typeIs
 obtain ⟨oa,na,a1,v1,hoa,_,hda,p1,q1⟩:=hx
 obtain ⟨ob,nb,a2,v2,hob,_,hdb,p2,q2⟩:=hy
 show wpAny _ _ (isInstance (.ref b) (.type "tuple") >>= _) _ _ s
 refine wpAny_bind (wpAny_isInstance hTb isSubtype_tuple_tuple ?_)
 simp only [Bool.not_true,Bool.false_eq_true,if_false]
 refine wpAny_bind (wpAny_tupleItemsOf hoa hda ?_)
 refine wpAny_bind (wpAny_tupleItemsOf hob hdb ?_)
 refine wpAny_bind ?_
 refine wpAny_forIn_list _
  (fun rest r s'=>r.1=none/\s'=s/\((rest=[(.ref a1,.ref a2),(v1,v2)])\/(rest=[(v1,v2)]/\x.1=y.1)\/(rest=[]/\x=y)))
  _ ?_ ?_ _ _ ⟨rfl,rfl,.inl rfl⟩
 ·rintro ⟨u,v⟩ rest r s' ⟨hr,rfl,hz | ⟨hz,e⟩ | ⟨hz,_⟩⟩
  ·cases hz
   refine wpAny_bind (wpAny_eqBool_tuple hu p1 p2 ?_)
   by_cases hk:x.1=y.1
   ·rw [decide_eq_true hk]
    simp only [Bool.not_true,Bool.false_eq_true,if_false]
    exact wpAny_pure ⟨rfl,rfl,by simp [hk]⟩
   ·rw [decide_eq_false hk]
    simp only [Bool.not_false,if_true]
    have hf:decide (x=y)=false:=decide_eq_false fun z=>hk (by rw [z])
    rw [hf] at h
    exact wpAny_bind (wpAny_pure (wpAny_pure (wpAny_pure h)))
  ·cases hz
   refine wpAny_bind (knd.eqBool (a:=x.2) (b:=y.2) q1 q2 ?_)
   by_cases hk:x.2=y.2
   ·rw [decide_eq_true hk]
    simp only [Bool.not_true,Bool.false_eq_true,if_false]
    exact wpAny_pure ⟨rfl,rfl,.inr (.inr ⟨trivial,Prod.ext e hk⟩)⟩
   ·rw [decide_eq_false hk]
    simp only [Bool.not_false,if_true]
    have hf:decide (x=y)=false:=decide_eq_false fun z=>hk (by rw [z])
    rw [hf] at h
    exact wpAny_bind (wpAny_pure (wpAny_pure (wpAny_pure h)))
  ·cases hz
 ·rintro ⟨r1,r2⟩ s' ⟨hr,rfl,hz | ⟨hz,_⟩ | ⟨_,e⟩⟩
  ·cases hz
  ·cases hz
  ·simp only at hr
   subst hr
   refine wpAny_pure ?_
   rw [decide_eq_true e] at h
   exact h
theorem wH {x y:List K × K} {a b:Addr} {Q:Bool->Shared->Prop} (hu:A.units + 1 < cLine) (hx:dF knd s.heap x a) (hy:dF knd s.heap y b) (h:Q (decide (x=y)) s) :
  wpAny (model prog w) A (eqBool (.ref a) (.ref b)) Q E s:=by
 unfold eqBool
 try with_reducible refine wpAny_holding ?_
 show wpAny _ _ (if (Value.ref a == Value.ref b)=true then _ else _) Q E s
 by_cases hab:(Value.ref a == Value.ref b)=true
 ·rw [if_pos hab]
  have e:a=b:=by have:=eq_of_beq hab;injection this
  subst e
  obtain rfl:=hx.inj hy
  exact wpAny_bind (wpAny_rule (wpAny_pure (by simpa using h)))
 ·rw [if_neg hab]
  exact wpAny_bind (wpAny_richCompare_same_room (op:=.Eq) hx.typeIs hy.typeIs F.slot_tuple_eq
   (wpAny_call_entry F.slot_tuple_eq hx.typeIs F.entry_tuple_eq (Cy (by first | exact hu | (show A.units + 1 < cLine;exact hu)) hx hy ⟨_,rfl,(fun e=>nomatch e),wpAny_truthy_bool h⟩) (F.args_tuple_eq_2 _ _)) (by omega))
theorem tQ {x:List K × K} {a:Addr} {Q:Bool->Shared->Prop} (hk:dF knd s.heap x a) (h:Q true s):wpAny (model prog w) A (eqIsQuiet 8 (.ref a)) Q E s:=by
 have hT:=hk.typeIs
 obtain ⟨o,n,b,v,ho,_,hd,h1,h2⟩:=hk
 have inner:∀ {Q:Bool->Shared->Prop},Q true s->wpAny (model prog w) A (eqIsQuiet 7 (.ref b)) Q E s:=by
  intro Q h
  have hT:=h1.typeIs
  obtain ⟨o,items,n,ho,_,hd,hi⟩:=h1
  unfold eqIsQuiet
  refine wpAny_bind (wpAny_specialOf hT F.slot_tuple_eq.lookup ?_)
  show wpAny _ _ (isInstance (.ref b) (.type "tuple") >>= _) _ _ s
  refine wpAny_bind (wpAny_isInstance hT isSubtype_tuple_tuple ?_)
  simp only [Bool.not_true,Bool.false_eq_true,if_false]
  refine wpAny_bind (wpAny_seqItems ho hd ?_)
  refine wpAny_bind ?_
  show wpAny _ _ (forIn items _ _) _ _ s
  rw [<- Array.forIn_toList]
  refine wpAny_forIn_list _ (fun rest r s'=>r.1=none/\s'=s/\∀ v∈rest,carriedByValue v=true) _ ?_ ?_ _ _ ⟨rfl,rfl,hi.byValue⟩
  ·rintro v rest r s' ⟨hr,rfl,hall⟩
   rw [eqIsQuiet_byValue _ (hall v List.mem_cons_self)]
   refine wpAny_bind (wpAny_pure ?_)
   simp only [Bool.not_true,Bool.false_eq_true,if_false]
   exact wpAny_pure ⟨rfl,rfl,fun u hu'=>hall u (List.mem_cons_of_mem _ hu')⟩
  ·rintro ⟨r1,r2⟩ s' ⟨hr,rfl,_⟩
   simp only at hr
   subst hr
   exact wpAny_pure h
 unfold eqIsQuiet
 refine wpAny_bind (wpAny_specialOf hT F.slot_tuple_eq.lookup ?_)
 show wpAny _ _ (isInstance (.ref a) (.type "tuple") >>= _) _ _ s
 refine wpAny_bind (wpAny_isInstance hT isSubtype_tuple_tuple ?_)
 simp only [Bool.not_true,Bool.false_eq_true,if_false]
 refine wpAny_bind (wpAny_seqItems ho hd ?_)
 refine wpAny_bind ?_
 show wpAny _ _ (forIn #[Value.ref b,v] _ _) _ _ s
 rw [<- Array.forIn_toList]
 refine wpAny_forIn_list _ (fun rest r s'=>r.1=none/\s'=s/\(rest=[.ref b,v]\/rest=[v]\/rest=[])) _ ?_ ?_ _ _ ⟨rfl,rfl,.inl rfl⟩
 ·rintro u rest r s' ⟨hr,rfl,hz | hz | hz⟩
  ·cases hz
   refine wpAny_bind (inner ?_)
   simp only [Bool.not_true,Bool.false_eq_true,if_false]
   exact wpAny_pure ⟨rfl,rfl,by simp⟩
  ·cases hz
   rw [eqIsQuiet_byValue _ (knd.byValue _ _ h2)]
   refine wpAny_bind (wpAny_pure ?_)
   simp only [Bool.not_true,Bool.false_eq_true,if_false]
   exact wpAny_pure ⟨rfl,rfl,by simp⟩
  ·cases hz
 ·rintro ⟨r1,r2⟩ s' ⟨hr,rfl,_⟩
  simp only at hr
  subst hr
  exact wpAny_pure h
end
def lJ {prog:Program} {w:World} {K:Type} [DecidableEq K] (knd:KeyKind prog w K):HeapKind prog w (List K × K) where
 is:=dF knd
 hash:=qT knd
 draws:=fun x=>x.1.length + 3
 room:=fun A=>A.units + 1 < cLine
 inj:=fun hx hy=>hx.inj hy
 keeps:=fun x ho hd hs=>x.keeps ho hd hs
 pyHash:=fun hu hk h=>wI hu hk h
 eqBool:=fun hu hx hy h=>wH hu hx hy h
 quiet:=fun hk h=>tQ hk h
end PySem
set_option Elab.async false
namespace L2
open PySem PySem.Spec PyProof.Rows
abbrev Key:=Sum Int Str
def sR:Key->Value->Bool
 | .inl k,v=>Value.isInt k v
 | .inr x,v=>Value.isStrOf x v
def Q7 (w:World):Key->Int
 | .inl k=>hashInt k
 | .inr x=>hashStr w x
theorem eG:∀ {k:Key} {v:Value},sR k v=true->(∃ i t,k=Sum.inl i/\v=Value.int i t)\/(∃ x t,k=Sum.inr x/\v=Value.str x t)
 | .inl i,v,h=>by
  obtain ⟨t,e⟩:=Value.isInt_shape (k:=i) (v:=v) h
  exact .inl ⟨i,t,rfl,e⟩
 | .inr x,v,h=>by
  obtain ⟨t,e⟩:=Value.isStrOf_shape (x:=x) (v:=v) h
  exact .inr ⟨x,t,rfl,e⟩
theorem Hm (i:Int) (t:Tok):sR (.inl i) (.int i t)=true:=by simp [sR,Value.isInt]
theorem Ie (x:Str) (t:Tok):sR (.inr x) (.str x t)=true:=by simp [sR,Value.isStrOf]
theorem Po (a b:Int):decide ((Sum.inl a:Key)=Sum.inl b)=(a == b):=by
 by_cases e:a=b
 ·subst e;simp
 ·have h:¬ (Sum.inl a:Key)=Sum.inl b:=fun q=>e (Sum.inl.inj q)
  rw [decide_eq_false h]
  exact (beq_eq_false_iff_ne.mpr e).symm
theorem Oi (a b:Str):decide ((Sum.inr a:Key)=Sum.inr b)=decide (a=b):=by
 by_cases e:a=b
 ·subst e;simp
 ·have h:¬ (Sum.inr a:Key)=Sum.inr b:=fun q=>e (Sum.inr.inj q)
  rw [decide_eq_false h,decide_eq_false e]
theorem Pf (a:Int) (b:Str):decide ((Sum.inl a:Key)=Sum.inr b)=false:=decide_eq_false (fun q=>nomatch q)
theorem Ow (a:Str) (b:Int):decide ((Sum.inr a:Key)=Sum.inl b)=false:=decide_eq_false (fun q=>nomatch q)
def cF (prog:Program) (w:World):PySem.KeyKind prog w Key where
 is:=sR
 hash:=Q7 w
 inj:=fun v a b ha hb=>by
  rcases eG ha with ⟨i,t,rfl,rfl⟩ | ⟨x,t,rfl,rfl⟩
  ·rcases eG hb with ⟨j,u,rfl,e⟩ | ⟨y,u,rfl,e⟩
   ·injection e with e1 _;rw [e1]
   ·exact nomatch e
  ·rcases eG hb with ⟨j,u,rfl,e⟩ | ⟨y,u,rfl,e⟩
   ·exact nomatch e
   ·injection e with e1 _;rw [e1]
 byValue:=fun k v h=>by
  rcases eG h with ⟨i,t,rfl,rfl⟩ | ⟨x,t,rfl,rfl⟩ <;> rfl
 pyHash:=fun hv h=>by
  rcases eG hv with ⟨i,t,rfl,rfl⟩ | ⟨x,t,rfl,rfl⟩
  ·exact wpAny_pyHash_int h
  ·exact wpAny_pyHash_str h
 eqBool:=fun hu hv h=>by
  rcases eG hu with ⟨i,t,rfl,rfl⟩ | ⟨x,t,rfl,rfl⟩
  ·rcases eG hv with ⟨j,u,rfl,rfl⟩ | ⟨y,u,rfl,rfl⟩
   ·rw [Po] at h;exact wpAny_eqBool_int h
   ·rw [Pf] at h;exact SeqAt.EqAt.int_str i t y u _ _ _ _ h
  ·rcases eG hv with ⟨j,u,rfl,rfl⟩ | ⟨y,u,rfl,rfl⟩
   ·rw [Ow] at h;exact SeqAt.EqAt.str_int x t j u _ _ _ _ h
   ·rw [Oi] at h;exact wpAny_eqBool_str h
 «strs»:=fun k x t v h=>by
  rcases eG h with ⟨i,u,rfl,e⟩ | ⟨y,u,rfl,e⟩
  ·exact nomatch e
  ·injection e with e1 _
   subst e1
   cases v <;> rfl
theorem DQ (prog:Program) (w:World) (i:Int) (t:Tok):(cF prog w).is (.inl i) (.int i t)=true:=Hm i t
theorem Dm (prog:Program) (w:World) (x:Str) (t:Tok):(cF prog w).is (.inr x) (.str x t)=true:=Ie x t
inductive V where
 | non | bl (b:Bool) | int (i:Int) | str (x:Str) | byt (b:Array UInt8) | flt (b:UInt64) | ref (a:Addr) | ty (n:String)
 deriving DecidableEq
def RelV:V->Value->Prop
 | .non,u=>u=Value.none
 | .bl b,u=>u=Value.bool b
 | .int i,u=>∃ t,u=Value.int i t
 | .str x,u=>∃ t,u=Value.str x t
 | .byt b,u=>∃ t,u=Value.bytes b t
 | .flt b,u=>∃ t,u=Value.float b t
 | .ref a,u=>u=Value.ref a
 | .ty n,u=>u=Value.type n
abbrev Vals:List V->List Value->Prop:=Paired RelV
theorem Vals.length {xs:List V} {us:List Value} (r:Vals xs us):xs.length=us.length:=Paired.length r
theorem Vals.get:∀ {xs:List V} {us:List Value} {i:Nat} {x:V},Vals xs us->xs[i]?=some x->∃ u,us[i]?=some u/\RelV x u
 | _,_,_,_,.nil,e=>by simp at e
 | _,_,0,_,.cons r _,e=>by simp at e;subst e;exact ⟨_,rfl,r⟩
 | _,_,i + 1,x,.cons _ t,e=>by
  obtain ⟨u,h1,h2⟩:=Vals.get (i:=i) (x:=x) t (by simpa using e)
  exact ⟨u,by simpa using h1,h2⟩
theorem Vals.set {x:V} {u:Value} (r:RelV x u):∀ {xs:List V} {us:List Value} (i:Nat),Vals xs us->Vals (xs.set i x) (us.set i u)
 | _,_,_,.nil=>.nil
 | _,_,0,.cons _ t=>.cons r t
 | _,_,i + 1,.cons q t=>.cons q (Vals.set r i t)
theorem Vals.append:∀ {xs ys:List V} {us ws:List Value},Vals xs us->Vals ys ws->Vals (xs++ys) (us++ws)
 | _,_,_,_,.nil,s=>s
 | _,_,_,_,.cons r t,s=>.cons r (Vals.append t s)
theorem Vals.take:∀ {xs:List V} {us:List Value} (n:Nat),Vals xs us->Vals (xs.take n) (us.take n)
 | _,_,0,_=>.nil
 | _,_,_ + 1,.nil=>.nil
 | _,_,n + 1,.cons r t=>.cons r (Vals.take n t)
theorem Vals.drop:∀ {xs:List V} {us:List Value} (n:Nat),Vals xs us->Vals (xs.drop n) (us.drop n)
 | _,_,0,r=>r
 | _,_,_ + 1,.nil=>.nil
 | _,_,n + 1,.cons _ t=>Vals.drop n t
def l7:Option V->Option Value->Prop
 | some v,some u=>RelV v u
 | none,none=>True
 | _,_=>False
def KV {κ:Type}:List (κ × V)->List (κ × Value)->Prop:=Paired fun (p:κ × V) (q:κ × Value)=>p.1=q.1/\RelV p.2 q.2
def kV:Key->V
 | .inl i=>.int i
 | .inr x=>.str x
inductive HO where
  | lst (xs:List V)
  | tup (xs:List V)
  | dK (kvs:List (Key × V)) | dT (kvs:List (List Key × V)) | dN (kvs:List ((List Key × Key) × V))
  | set (S:Int->Bool) (n:Nat)
  | ins (C dx:Addr) (fs:List (Str × V))
  | own (x:Addr)
  | xd (fs:List (Str × V))
  | met (f x:Addr)
  | rng (lo hi:Int)
  | frz (o:Obj) (u:HO)
  | tbl (ps:Array Value)
  | ext (φ:Heap->Prop)
abbrev Hp:=Addr->Option HO
def upd (H:Hp) (a:Addr) (o:HO):Hp:=fun b=>if b=a then some o else H b
theorem cT {H:Hp} {a:Addr} {o:HO}:upd H a o a=some o:=by unfold upd;rw [if_pos rfl]
theorem bL {H:Hp} {a b:Addr} {o:HO} (h:b≠a):upd H a o b=H b:=by unfold upd;rw [if_neg h]
theorem Ly {H:Hp} {a b:Addr} {o u:HO} (h:H a=some o) (h':H b=some u) (d:o≠u):a≠b:=by
 intro e;subst e;rw [h] at h';exact d (Option.some.inj h')
theorem cN {H:Hp} {a b:Addr} {o:HO} (h:H a=some o) (h':H b=none):a≠b:=by
 intro e;subst e;rw [h] at h';cases h'
def iS (h:Heap) (a:Addr) (items:Array Value):Prop:=∃ o,h.get? a=some o/\o.cls=.type "tuple"/\o.dict=none/\∃ n,o.data=.seq items n
theorem iS.tup {h:Heap} {a:Addr} {items:Array Value} (x:iS h a items):IsTup h a items:=let ⟨o,h1,h2,_,h3⟩:=x;⟨o,h1,h2,h3⟩
theorem iS.new (h:Heap) (items:Array Value):iS (h.push { cls:=.type "tuple",data:=.seq items }) h.objs.size items:=⟨_,Heap.get?_push_size _ rfl,rfl,rfl,_,rfl⟩
section
variable (P:Program) (w:World)
def cK (H:Hp) (h:Heap) (a:Addr):HO->Prop
 | .lst xs=>xs.length<=sizeLine/\∃ (its:List Value) (n:Nat),Vals xs its/\h.get? a=some { cls:=.type "list",data:=.seq its.toArray n }
 | .tup xs=>xs.length<=sizeLine/\∃ its:List Value,Vals xs its/\iS h a its.toArray
 | .dK kvs=>kvs.length<=sizeLine/\(a == sysModules)=false/\∃ vs,KV kvs vs/\h.DictOf (cF P w) a vs
 | .dT kvs=>kvs.length<=sizeLine/\(a == sysModules)=false/\∃ xs:List (List Key × Addr × Value),
   Paired (fun (p:List Key × V) (q:List Key × Addr × Value)=>p.1=q.1/\H q.2.1=some (.tup (p.1.map kV))/\RelV p.2 q.2.2) kvs xs /\
   ∃ o es ep,h.get? a=some o/\o.ExactDict/\o.data=.dict es ep/\es.toList=xs.map (entryOfKey (tupleKind (cF P w)))/\(xs.map (·.1)).Nodup
 | .dN kvs=>kvs.length<=sizeLine/\(a == sysModules)=false/\∃ xs:List ((List Key × Key) × Addr × Value),
   Paired (fun (p:(List Key × Key) × V) (q:(List Key × Key) × Addr × Value)=>p.1=q.1/\(∃ c,H q.2.1=some (.tup [.ref c,kV p.1.2])/\H c=some (.tup (p.1.1.map kV)))/\RelV p.2 q.2.2) kvs xs /\
   ∃ o es ep,h.get? a=some o/\o.ExactDict/\o.data=.dict es ep/\es.toList=xs.map (entryOfKey (lJ (cF P w)))/\(xs.map (·.1)).Nodup
 | .set S n=>h.SetOf (intKind P w) a S n
 | .ins C dx fs=>H dx=some (.own a)/\fs.length<=1000/\dx≠a/\h.get? a=some (PySem.W.instObj C dx) /\
   ∃ mA,h.Ns1 dx mA/\(∀ f,l7 (fs.lookup f) (mA f))/\PySem.Within mA (fs.map (·.1))
 | .own _=>∃ o,h.get? a=some o
 | .xd fs=>∃ mA,h.Ns1 a mA/\∀ f,l7 (fs.lookup f) (mA f)
 | .rng lo hi=>∃ t u v,h.get? a=some { cls:=.type "range",data:=.fields #[.int lo t,.int hi u,.int 1 v] }
 | .frz o u=>h.get? a=some o/\cK H h a u
 | .tbl ps=>h.get? a=some { cls:=.none,data:=.fields ps }
 | .met f x=>h.get? a=some (PySem.W.methodObj (.ref f) (.ref x))
 | .ext φ=>φ h/\(∃ o,h.get? a=some o)/\∀ h1 h2:Heap,φ h1->(∀ o,h1.get? a=some o->h2.get? a=some o)->φ h2
def gE (H:Hp) (h:Heap):Prop:=∀ a o,H a=some o->cK P w H h a o
end
section
variable {P:Program} {w:World} {H H':Hp} {h h':Heap} {a:Addr} {o:HO}
theorem cK.lt (x:cK P w H h a o):a < h.objs.size:=by
 cases o with
 | lst xs=>obtain ⟨_,_,_,_,e⟩:=x;exact Heap.lt_size e
 | tup xs=>obtain ⟨_,_,_,p⟩:=x;exact IsTup.lt (iS.tup p)
 | dK kvs=>obtain ⟨_,_,_,_,o,_,_,e,_⟩:=x;exact Heap.lt_size e
 | dT kvs=>obtain ⟨_,_,_,_,o,_,_,e,_⟩:=x;exact Heap.lt_size e
 | dN kvs=>obtain ⟨_,_,_,_,o,_,_,e,_⟩:=x;exact Heap.lt_size e
 | set S n=>obtain ⟨o,_,_,_,e,_⟩:=x;exact Heap.lt_size e
 | ins C dx fs=>obtain ⟨_,_,_,e,_⟩:=x;exact Heap.lt_size e
 | own y=>obtain ⟨_,e⟩:=x;exact Heap.lt_size e
 | xd fs=>obtain ⟨_,⟨_,_,_,e,_⟩,_⟩:=x;exact Heap.lt_size e
 | rng lo hi=>obtain ⟨_,_,_,e⟩:=x;exact Heap.lt_size e
 | frz ob u=>obtain ⟨e,_⟩:=x;exact Heap.lt_size e
 | tbl ps=>exact Heap.lt_size (show h.get? a=some _ from x)
 | met f y=>exact Heap.lt_size (show h.get? a=some _ from x)
 | ext φ=>obtain ⟨_,⟨_,e⟩,_⟩:=x;exact Heap.lt_size e
theorem Paired.mapP {α β:Type} {F G:α->β->Prop}:∀ {l₁:List α} {l₂:List β},Paired F l₁ l₂->(∀ a b,F a b->G a b)->Paired G l₁ l₂
 | _,_,.nil,_=>.nil
 | _,_,.cons r t,f=>.cons (f _ _ r) (Paired.mapP t f)
theorem cK.stay (x:cK P w H h a o) (k:∀ b u,(b=a\/H b=some (.own a))->h.get? b=some u->h'.get? b=some u)
  (ho:∀ b,H b=some (.own a)->H' b=some (.own a)) (ht:∀ b xs,H b=some (.tup xs)->H' b=some (.tup xs)):cK P w H' h' a o:=by
 induction o with
 | lst xs=>obtain ⟨z,its,n,r,e⟩:=x;exact ⟨z,its,n,r,k _ _ (.inl rfl) e⟩
 | tup xs=>obtain ⟨z,its,r,ob,e,c⟩:=x;exact ⟨z,its,r,ob,k _ _ (.inl rfl) e,c⟩
 | dK kvs=>obtain ⟨z,y,vs,r,ob,es,ep,e,c⟩:=x;exact ⟨z,y,vs,r,ob,es,ep,k _ _ (.inl rfl) e,c⟩
 | dT kvs =>
  obtain ⟨z,y,xs,r,ob,es,ep,e,c⟩:=x
  exact ⟨z,y,xs,Paired.mapP r fun p q z=>⟨z.1,ht _ _ z.2.1,z.2.2⟩,ob,es,ep,k _ _ (.inl rfl) e,c⟩
 | dN kvs =>
  obtain ⟨z,y,xs,r,ob,es,ep,e,c⟩:=x
  exact ⟨z,y,xs,Paired.mapP r fun p q z=>⟨z.1,let ⟨c,h1,h2⟩:=z.2.1;⟨c,ht _ _ h1,ht _ _ h2⟩,z.2.2⟩,ob,es,ep,k _ _ (.inl rfl) e,c⟩
 | set S n=>obtain ⟨ob,es,ep,t,e,c⟩:=x;exact ⟨ob,es,ep,t,k _ _ (.inl rfl) e,c⟩
 | ins C dx fs =>
  obtain ⟨d,z,ne,e,mA,⟨od,es,ep,e2,c⟩,r⟩:=x
  exact ⟨ho _ d,z,ne,k _ _ (.inl rfl) e,mA,⟨od,es,ep,k _ _ (.inr d) e2,c⟩,r⟩
 | own y=>obtain ⟨ob,e⟩:=x;exact ⟨ob,k _ _ (.inl rfl) e⟩
 | xd fs=>obtain ⟨mA,⟨od,es,ep,e,c⟩,r⟩:=x;exact ⟨mA,⟨od,es,ep,k _ _ (.inl rfl) e,c⟩,r⟩
 | rng lo hi=>obtain ⟨t,u,v,e⟩:=x;exact ⟨t,u,v,k _ _ (.inl rfl) e⟩
 | frz ob u ih=>obtain ⟨e,q⟩:=x;exact ⟨k _ _ (.inl rfl) e,ih q⟩
 | tbl ps =>
  have e:h.get? a=some { cls:=.none,data:=.fields ps }:=x
  show h'.get? a=some { cls:=.none,data:=.fields ps }
  exact k a _ (.inl rfl) e
 | met f y =>
  have e:h.get? a=some (PySem.W.methodObj (.ref f) (.ref y)):=x
  show h'.get? a=some (PySem.W.methodObj (.ref f) (.ref y))
  exact k a _ (.inl rfl) e
 | ext φ=>obtain ⟨p,⟨o,e⟩,st⟩:=x;exact ⟨st _ _ p fun o q=>k _ _ (.inl rfl) q,⟨o,k _ _ (.inl rfl) e⟩,st⟩
theorem gE.lt (x:gE P w H h) (e:H a=some o):a < h.objs.size:=(x a o e).lt
theorem gE.fresh (x:gE P w H h) (e:h.objs.size<=a):H a=none:=by
 cases q:H a with
 | none=>rfl
 | some u=>exact absurd (Nat.lt_of_lt_of_le (x.lt q) e) (Nat.lt_irrefl _)
theorem gE.kept (x:gE P w H h) (k:∀ b u,h.get? b=some u->h'.get? b=some u):gE P w H h':=fun a o e =>
 (x a o e).stay (fun b u _ q=>k b u q) (fun _ q=>q) fun _ _ q=>q
theorem gE.laid (x:gE P w H h) (k:∀ b u,h.get? b=some u->h'.get? b=some u) (hp:h.objs.size<=a) (new:cK P w (upd H a o) h' a o):gE P w (upd H a o) h':=fun b u e=>by
 have hn:=x.fresh hp
 by_cases hb:b=a
 ·subst hb;rw [cT] at e;cases e;exact new
 ·rw [bL hb] at e
  exact (x b u e).stay (fun c v _ q=>k c v q) (fun c q=>by rw [bL (cN q hn)];exact q) fun c xs q=>by rw [bL (cN q hn)];exact q
end
def Rd (H:Hp) (a:Addr) (u:HO):Prop:=H a=some u\/∃ o,H a=some (.frz o u)
theorem Rd.ok {P:Program} {w:World} {H:Hp} {h:Heap} {a:Addr} {u:HO} (r:Rd H a u) (x:gE P w H h):cK P w H h a u:=by
 rcases r with r | ⟨o,r⟩
 ·exact x a u r
 ·obtain ⟨_,q⟩:=x a _ r
  exact q
def Hk:Option HO->Prop
 | some (.lst _)=>True
 | some (.dK _)=>True
 | some (.dT _)=>True
 | some (.dN _)=>True
 | some (.set _ _)=>True
 | some (.ins _ _ _)=>True
 | some (.ext _)=>True
 | _=>False
section
variable {P:Program} {w:World} {H:Hp} {h h':Heap} {x e:Addr} {o':HO}
theorem gE.write (ok:gE P w H h) (mu:Hk (H x)) (he:e=x\/H e=some (.own x)) (k:∀ b u,b≠e->h.get? b=some u->h'.get? b=some u) (heo:∃ u,h'.get? e=some u)
  (new:cK P w (upd H x o') h' x o'):gE P w (upd H x o') h':=fun b u q=>by
 have nown:∀ c y,H c=some (.own y)->c≠x:=fun c y r z=>by subst z;rw [r] at mu;exact mu
 have ntup:∀ c xs,H c=some (.tup xs)->c≠x:=fun c xs r z=>by subst z;rw [r] at mu;exact mu
 by_cases hb:b=x
 ·subst hb;rw [cT] at q;cases q;exact new
 ·rw [bL hb] at q
  by_cases hbe:b=e
  ·have q':H b=some (.own x):=by
    rcases he with z | z
    ·exact absurd (hbe.trans z) hb
    ·rw [hbe];exact z
   rw [q] at q';cases q'
   obtain ⟨v,hv⟩:=heo
   exact ⟨v,by rw [hbe];exact hv⟩
  ·refine (ok b u q).stay (fun c v hc r=>k c v ?_ r) (fun c r=>by rw [bL (nown c b r)];exact r) fun c xs r=>by rw [bL (ntup c xs r)];exact r
   rcases hc with rfl | hc
   ·exact hbe
   ·rintro rfl
    rcases he with z | z
    ·exact nown c b hc z
    ·rw [hc] at z;cases z;exact hb rfl
end
structure Un (fs ex:List Addr) (H H':Hp) (h h':Heap):Prop where
 keep:∀ b o,h.get? b=some o->H b=none->b ∉ fs->b ∉ ex->h'.get? b=some o
 slot:∀ b o,h.get? b=some o->H b=none->b∈fs->b ∉ ex->∃ sl,h'.get? b=some { o with slots:=sl }
 free:∀ b o,h.get? b=some o->H b=none->b ∉ ex->H' b=none
 there:∀ b o,h.get? b=some o->b ∉ ex->∃ o',h'.get? b=some o'
 tups:∀ b xs,H b=some (.tup xs)->H' b=some (.tup xs)
 frzs:∀ b o u,H b=some (.frz o u)->H' b=some (.frz o u)
 tbls:∀ b ps,H b=some (.tbl ps)->∃ more,H' b=some (.tbl (ps++more))
section
variable {fs fs' ex ex':List Addr} {H H1 H2:Hp} {h h1 h2 h':Heap} {a x e:Addr} {o:HO}
theorem Un.any (u:Un fs ex H H1 h h1) {b:Addr} {ob:Obj} (q:h.get? b=some ob) (n:H b=none) (hx:b ∉ ex):∃ sl,h1.get? b=some { ob with slots:=sl }:=by
 by_cases hb:b∈fs
 ·exact u.slot b ob q n hb hx
 ·exact ⟨ob.slots,u.keep b ob q n hb hx⟩
theorem Un.kept (k:∀ b u,h.get? b=some u->h'.get? b=some u):Un fs ex H H h h' :=
 ⟨fun b ob q _ _ _=>k b ob q,fun b ob q _ _ _=>⟨ob.slots,k b ob q⟩,fun _ _ _ n _=>n,fun b ob q _=>⟨ob,k b ob q⟩,fun _ _ q=>q,fun _ _ _ q=>q,fun _ ps q=>⟨#[],by rw [q];simp⟩⟩
theorem Un.refl:Un fs ex H H h h:=Un.kept fun _ _ q=>q
theorem Un.laid (k:∀ b u,h.get? b=some u->h'.get? b=some u) (hp:h.objs.size<=a) (hn:H a=none):Un fs ex H (upd H a o) h h' where
 keep:=fun b u q _ _ _=>k b u q
 slot:=fun b u q _ _ _=>⟨u.slots,k b u q⟩
 free:=fun b u q n _=>by rw [bL (Nat.ne_of_lt (Nat.lt_of_lt_of_le (Heap.lt_size q) hp))];exact n
 there:=fun b u q _=>⟨u,k b u q⟩
 tups:=fun b xs q=>by rw [bL (cN q hn)];exact q
 frzs:=fun b u xs q=>by rw [bL (cN q hn)];exact q
 tbls:=fun b ps q=>⟨#[],by rw [bL (cN q hn),q];simp⟩
theorem Un.write (mu:Hk (H x)) (he:e=x\/H e=some (.own x)) (k:∀ b u,b≠e->h.get? b=some u->h'.get? b=some u) (heo:∃ u,h'.get? e=some u):Un fs ex H (upd H x o) h h':=by
 have hx:∀ b,H b=none->b≠x:=fun b n z=>by subst z;rw [n] at mu;exact mu
 have hb:∀ b,H b=none->b≠e:=fun b n z=>by
  subst z
  rcases he with r | r
  ·exact hx b n r
  ·rw [n] at r;cases r
 have hm:∀ b u,H b=some u->¬ Hk (some u)->b≠x:=fun b u q nm z=>by subst z;rw [q] at mu;exact nm mu
 refine ⟨fun b u q n _ _=>k b u (hb b n) q,fun b u q n _ _=>⟨u.slots,k b u (hb b n) q⟩,fun b u q n _=>by rw [bL (hx b n)];exact n,fun b u q _=>?_,
  fun b xs q=>by rw [bL (hm b _ q fun z=>z)];exact q,fun b u xs q=>by rw [bL (hm b _ q fun z=>z)];exact q,fun b ps q=>⟨#[],by rw [bL (hm b _ q fun z=>z),q];simp⟩⟩
 by_cases hbe:b=e
 ·subst hbe;exact heo
 ·exact ⟨u,k b u hbe q⟩
end
def Lr (h:Heap) (H:Hp):List Addr:=(List.range h.objs.size).filter fun a=>(H a).isSome
def uF (h:Heap) (H:Hp):Heap:=PySem.W.hideAll h (Lr h H)
theorem Ii (h:Heap) (H:Hp):(uF h H).objs.size=h.objs.size:=PySem.W.hideAll_size _ _
theorem Ka {h:Heap} {H:Hp} {b:Addr} {o:Obj} (e:h.get? b=some o) (n:H b=none):(uF h H).get? b=some o :=
 PySem.W.hideAll_get _ e fun hm=>by
  have q:(H b).isSome=true:=(List.mem_filter.mp hm).2
  rw [n] at q;simp at q
theorem LY {h:Heap} {H:Hp} {b:Addr} {o:Obj} (e:(uF h H).get? b=some o):h.get? b=some o/\H b=none:=by
 have e':h.get? b=some o:=PySem.W.of_hideAll (Lr h H) e
 refine ⟨e',?_⟩
 cases q:H b with
 | none=>rfl
 | some x =>
  have hm:b∈Lr h H:=List.mem_filter.mpr ⟨List.mem_range.mpr (Heap.lt_size e'),by simp [q]⟩
  have z:(uF h H).get? b=none:=PySem.W.hideAll_none (Lr h H) hm
  rw [z] at e;cases e
structure Mod (K:PySem.W.Frag) (mg:Str->Option Value) (base:Heap):Prop where
 kin:K.In base
 glob:base.Ns mainGlobals mg
 blt:∃ mb,base.Ns builtinsNs mb/\∀ x:Str,x≠"__name__"->mb x=bootBuiltins x
 nolimit:base.NoLimit
structure Cx where
 prog:Program
 w:World
 K:PySem.W.Frag
 mg:Str->Option Value
 base:Heap
 A:Around
 N:List Str
 s₀:Shared
 H₀:Hp
 env:Env
 outer:List Env
 stack:List Env
 ex:List Addr
 fn:Str->Bool
 calm:Bool
 pn:List (Addr × Obj)
 xe:Value->Shared->Prop
def r9 (l:List Env):List Addr:=l.filterMap (·.frame)
abbrev Cx.fs (X:Cx):List Addr:=r9 X.outer
def HA (sc:Scope) (x:Str):Prop:=sc.names.lookup x=some .local\/sc.names.lookup x=some .cell\/sc.names.lookup x=some .free
def Loc (sc:Scope) (x:Str):Prop:=sc.names.lookup x=some .local\/sc.names.lookup x=some .cell
def Look (env:Env) (h:Heap) (m:Str->Option Value) (x:Str) (u:Value):Prop :=
 (env.kindOf x=some .local/\m x=some u)\/((env.kindOf x=some .cell\/env.kindOf x=some .free)/\∃ c,env.cells.lookup x=some c/\h.IsCell c (some u))
structure Cx.Ok (X:Cx):Prop where
 mod:Mod X.K X.mg X.base
 kind:X.env.scope.kind=.function
 glob:X.env.globals=mainGlobals
 blt:X.env.builtins=builtinsNs
 above:X.s₀.heap.objs.size<=X.env.locals
 inj:∀ x y c,X.env.cells.lookup x=some c->X.env.cells.lookup y=some c->x=y
 has:∀ x,(X.env.kindOf x=some .cell\/X.env.kindOf x=some .free)->∃ c,X.env.cells.lookup x=some c
 cab:∀ x c,X.fn x=true->X.env.cells.lookup x=some c->X.s₀.heap.objs.size<=c
 hd:X.calm=true->X.A.handled=none
 frames:X.A.frames=some X.stack
 stk:X.stack=X.outer\/(X.stack=X.env :: X.outer/\X.env.frame=some X.env.locals)
 exf:∀ b∈X.ex,b≠X.env.locals/\∀ x c,X.env.cells.lookup x=some c->c≠b
 bs:∀ b o,X.base.get? b=some o->X.s₀.heap.get? b=some o/\X.H₀ b=none
 bsz:X.base.objs.size<=X.s₀.heap.objs.size
 noex:∀ b o,X.base.get? b=some o->b ∉ X.ex
 exfs:∀ b∈X.ex,b ∉ X.fs
 funs:X.s₀.heap.FunFrames X.base X.outer
 frf:∀ b∈X.fs,X.H₀ b=none
structure Inv (X:Cx) (pins:List (Addr × Obj)) (σ:List (Option V)) (H:Hp) (s:Shared):Prop where
 ok:X.Ok
 os:s.os=X.s₀.os
 bare:AllBare s.gens
 base:Un X.fs X.ex X.H₀ H X.s₀.heap s.heap
 loc:∃ m,s.heap.Ns X.env.locals m/\∀ (i:Nat) (x:Str) (v:V),X.N[i]?=some x->σ[i]?=some (some v)->HA X.env.scope x->∃ u,RelV v u/\Look X.env s.heap m x u
 cell:∀ x c,X.env.cells.lookup x=some c->∃ v,s.heap.IsCell c v
 free:H X.env.locals=none
 freeC:∀ x c,X.env.cells.lookup x=some c->H c=none
 pin:∀ p∈X.pn++pins,s.heap.get? p.1=some p.2/\H p.1=none/\p.1≠X.env.locals/\p.1 ∉ X.fs/\∀ v,p.2.data≠.cell v
 hok:gE X.prog X.w H s.heap
 len:σ.length=X.N.length
section
variable {X:Cx} {pins:List (Addr × Obj)} {σ:List (Option V)} {H H':Hp} {s:Shared} {h':Heap}
theorem Cx.Ok.nofr (ok:X.Ok) {b:Addr} {o:Obj} (e:X.base.get? b=some o):b ∉ X.fs:=fun hb=>by
 have:=(ok.funs.mem hb).1
 rw [e] at this;cases this
theorem Inv.bs (I:Inv X pins σ H s):∀ b o,X.base.get? b=some o->s.heap.get? b=some o/\H b=none:=fun b o e =>
 ⟨I.base.keep b o (I.ok.bs b o e).1 (I.ok.bs b o e).2 (I.ok.nofr e) (I.ok.noex b o e),I.base.free b o (I.ok.bs b o e).1 (I.ok.bs b o e).2 (I.ok.noex b o e)⟩
theorem Inv.bk (I:Inv X pins σ H s):∀ b o,X.base.get? b=some o->s.heap.get? b=some o:=fun b o e=>(I.bs b o e).1
theorem Inv.mod (I:Inv X pins σ H s):Mod X.K X.mg X.base:=I.ok.mod
theorem Inv.kIn (I:Inv X pins σ H s):X.K.In s.heap:=I.ok.mod.kin.keeps I.bk
theorem Inv.fr (I:Inv X pins σ H s):∃ m,Fr X.base X.env.locals s.heap m :=
 let ⟨m,hn,_⟩:=I.loc
 ⟨m,hn,I.bk,Nat.le_trans I.ok.bsz I.ok.above⟩
theorem Inv.lt (I:Inv X pins σ H s):X.env.locals < s.heap.objs.size:=let ⟨_,hn,_⟩:=I.loc;hn.lt
theorem Inv.sz (I:Inv X pins σ H s):X.s₀.heap.objs.size<=s.heap.objs.size:=Nat.le_trans I.ok.above (Nat.le_of_lt I.lt)
theorem Inv.nofs (I:Inv X pins σ H s) {a:Addr} (h:s.heap.objs.size<=a):a ∉ X.fs:=fun hb=>by
 obtain ⟨_,o,ho,_⟩:=I.ok.funs.mem hb
 exact absurd (Nat.lt_of_lt_of_le (Heap.lt_size ho) (Nat.le_trans I.sz h)) (Nat.lt_irrefl _)
theorem Inv.cne (I:Inv X pins σ H s):∀ x c,X.env.cells.lookup x=some c->c≠X.env.locals:=fun x c e z=>by
 obtain ⟨v,o,ho,hd⟩:=I.cell x c e
 obtain ⟨m,⟨o',es,ep,ho',hd',_⟩,_⟩:=I.loc
 rw [z,ho'] at ho;cases ho;rw [hd'] at hd;cases hd
theorem Inv.funs (I:Inv X pins σ H s):s.heap.FunFrames X.base X.outer:=by
 have all:∀ (l:List Env),(∀ b∈r9 l,b∈X.fs)->X.s₀.heap.FunFrames X.base l->s.heap.FunFrames X.base l:=by
  intro l
  induction l with
  | nil=>intro _ _;trivial
  | cons env r ih =>
   intro hs hl
   obtain ⟨hk,⟨L,o,hf,hn,ho,hd⟩,hr⟩:=hl
   have hL:L∈X.fs:=hs L (by unfold r9;rw [List.filterMap_cons,hf];exact List.mem_cons_self)
   obtain ⟨sl,e⟩:=I.base.slot L o ho (I.ok.frf L hL) hL fun z=>I.ok.exfs L z hL
   exact ⟨hk,⟨L,_,hf,hn,e,hd⟩,ih (fun b hb=>hs b (by unfold r9;rw [List.filterMap_cons,hf];exact List.mem_cons_of_mem _ hb)) hr⟩
 exact all X.outer (fun _ hb=>hb) I.ok.funs
theorem Inv.stack (I:Inv X pins σ H s):s.heap.FunFrames X.base X.stack:=by
 rcases I.ok.stk with e | ⟨e,hf⟩
 ·rw [e];exact I.funs
 ·rw [e]
  obtain ⟨m,hn,_⟩:=I.loc
  refine .cons (by rw [I.ok.kind];decide) hf hn ?_ I.funs
  exact Heap.get?_none_of_le (Nat.le_trans I.ok.bsz I.ok.above)
theorem Inv.stkSub (I:Inv X pins σ H s):∀ b∈r9 X.stack,b∈X.env.locals :: X.fs:=fun b hb=>by
 rcases I.ok.stk with e | ⟨e,hf⟩
 ·rw [e] at hb;exact List.mem_cons_of_mem _ hb
 ·rw [e] at hb
  unfold r9 at hb
  rw [List.filterMap_cons,hf] at hb
  exact hb
theorem Inv.stkFree (I:Inv X pins σ H s):∀ b∈r9 X.stack,H b=none:=fun b hb=>by
 rcases List.mem_cons.mp (I.stkSub b hb) with e | hb
 ·rw [e];exact I.free
 ·obtain ⟨_,o,ho,_⟩:=I.ok.funs.mem hb
  exact I.base.free b o ho (I.ok.frf b hb) fun z=>I.ok.exfs b z hb
theorem Inv.step {g':Array GenState} {t':Nat} {d':Drawn} {ch:List Addr} (I:Inv X pins σ H s)
  (hch:∀ b∈ch,(b∈X.ex\/X.s₀.heap.objs.size<=b)/\b≠X.env.locals/\(∀ x c,X.env.cells.lookup x=some c->c≠b)/\∀ p∈X.pn++pins,p.1≠b)
  (keep:∀ b o,b≠X.env.locals->b ∉ X.fs->b ∉ ch->s.heap.get? b=some o->H b=none->h'.get? b=some o)
  (slot:∀ b o,b≠X.env.locals->b∈X.fs->b ∉ ch->s.heap.get? b=some o->H b=none->∃ sl,h'.get? b=some { o with slots:=sl }) (free:∀ b o,b ∉ ch->s.heap.get? b=some o->H b=none->H' b=none)
  (there:∀ b o,b ∉ ch->s.heap.get? b=some o->∃ o',h'.get? b=some o')
  (tups:∀ b xs,H b=some (.tup xs)->H' b=some (.tup xs)) (frzs:∀ b o u,H b=some (.frz o u)->H' b=some (.frz o u)) (tbls:∀ b ps,H b=some (.tbl ps)->∃ more,H' b=some (.tbl (ps++more)))
  (ns:∀ m,s.heap.Ns X.env.locals m->h'.Ns X.env.locals m) (hok:gE X.prog X.w H' h') (hg:AllBare g') :
  Inv X pins σ H' { s with heap:=h',gens:=g',drawn:=d',toks:=t' }:=by
 have neL:∀ b o,X.s₀.heap.get? b=some o->b≠X.env.locals:=fun b o e=>Nat.ne_of_lt (Nat.lt_of_lt_of_le (Heap.lt_size e) I.ok.above)
 have neC:∀ b o,X.s₀.heap.get? b=some o->b ∉ X.ex->b ∉ ch:=fun b o e hx hb=>by
  rcases (hch b hb).1 with z | z
  ·exact hx z
  ·exact absurd (Nat.lt_of_lt_of_le (Heap.lt_size e) z) (Nat.lt_irrefl _)
 have cellK:∀ x c,X.env.cells.lookup x=some c->∀ v,s.heap.IsCell c v->h'.IsCell c v:=fun x c e v ⟨o,ho,hd⟩=>by
  have nch:c ∉ ch:=fun z=>(hch c z).2.2.1 x c e rfl
  by_cases hc:c∈X.fs
  ·obtain ⟨sl,q⟩:=slot c o (I.cne x c e) hc nch ho (I.freeC x c e)
   exact ⟨_,q,hd⟩
  ·exact ⟨o,keep c o (I.cne x c e) hc nch ho (I.freeC x c e),hd⟩
 refine ⟨I.ok,I.os,hg,⟨fun b o e n hb hx=>?_,fun b o e n hb hx=>?_,fun b o e n hx=>?_,fun b o e hx=>?_,fun b xs e=>tups b xs (I.base.tups b xs e),fun b o xs e=>frzs b o xs (I.base.frzs b o xs e),fun b ps e=>?_⟩,?_,fun x c e=>?_,?_,fun x c e=>?_,fun p hp=>?_,hok,I.len⟩
 ·exact keep b o (neL b o e) hb (neC b o e hx) (I.base.keep b o e n hb hx) (I.base.free b o e n hx)
 ·obtain ⟨sl,e1⟩:=I.base.slot b o e n hb hx
  obtain ⟨sl',e2⟩:=slot b _ (neL b o e) hb (neC b o e hx) e1 (I.base.free b o e n hx)
  exact ⟨sl',e2⟩
 ·obtain ⟨o',e1⟩:=I.base.there b o e hx
  exact free b o' (neC b o e hx) e1 (I.base.free b o e n hx)
 ·obtain ⟨o',e1⟩:=I.base.there b o e hx
  exact there b o' (neC b o e hx) e1
 ·obtain ⟨m1,e1⟩:=I.base.tbls b ps e
  obtain ⟨m2,e2⟩:=tbls b _ e1
  exact ⟨m1++m2,by rw [e2,Array.append_assoc]⟩
 ·obtain ⟨m,hn,hl⟩:=I.loc
  refine ⟨m,ns m hn,fun i x v e1 e2 e3=>?_⟩
  obtain ⟨u,r,l⟩:=hl i x v e1 e2 e3
  refine ⟨u,r,?_⟩
  rcases l with l | ⟨k,c,e,z⟩
  ·exact .inl l
  ·exact .inr ⟨k,c,e,cellK x c e _ z⟩
 ·obtain ⟨v,z⟩:=I.cell x c e
  exact ⟨v,cellK x c e v z⟩
 ·obtain ⟨m,⟨o,_,_,ho,_⟩,_⟩:=I.loc
  exact free _ o (fun z=>(hch _ z).2.1 rfl) ho I.free
 ·obtain ⟨v,o,ho,hd⟩:=I.cell x c e
  exact free c o (fun z=>(hch c z).2.2.1 x c e rfl) ho (I.freeC x c e)
 ·obtain ⟨e,n,ne,nf,d⟩:=I.pin p hp
  have nch:p.1 ∉ ch:=fun z=>(hch p.1 z).2.2.2 p hp rfl
  exact ⟨keep p.1 p.2 ne nf nch e n,free p.1 p.2 nch e n,ne,nf,d⟩
theorem Inv.un {t':Nat} (I:Inv X pins σ H s) (u:Un X.fs [] H H' s.heap h') (hok:gE X.prog X.w H' h'):Inv X pins σ H' { s with heap:=h',toks:=t' }:=by
 obtain ⟨m,⟨o,es,ep,ho,r⟩,_⟩:=id I.loc
 obtain ⟨sl,hL⟩:=u.any ho I.free (by simp)
 exact I.step (g':=s.gens) (d':=s.drawn) (ch:=[]) (fun _ z=>nomatch z) (fun b o _ hb _ e n=>u.keep b o e n hb (by simp)) (fun b o _ hb _ e n=>u.slot b o e n hb (by simp)) (fun b o _ e n=>u.free b o e n (by simp)) (fun b o _ e=>u.there b o e (by simp)) u.tups u.frzs u.tbls (fun m' hm=>by
  obtain ⟨o',es',ep',ho',r'⟩:=hm
  rw [ho] at ho';cases ho'
  exact ⟨_,es',ep',hL,r'⟩) hok I.bare
theorem Inv.call {g':Array GenState} {t':Nat} {d':Drawn} {ch:List Addr} (I:Inv X pins σ H s) (u:Un (r9 X.stack) ch H H' s.heap h') (hok:gE X.prog X.w H' h') (hg:AllBare g')
  (hch:∀ b∈ch,(b∈X.ex\/X.s₀.heap.objs.size<=b)/\b≠X.env.locals/\(∀ x c,X.env.cells.lookup x=some c->c≠b)/\∀ p∈X.pn++pins,p.1≠b) :
  Inv X pins σ H' { s with heap:=h',gens:=g',drawn:=d',toks:=t' }:=by
 obtain ⟨m,⟨o,es,ep,ho,r⟩,_⟩:=id I.loc
 obtain ⟨sl,hL⟩:=u.any ho I.free fun z=>(hch _ z).2.1 rfl
 exact I.step (ch:=ch) hch (fun b o hL hb hc e n=>u.keep b o e n (fun z=>(List.mem_cons.mp (I.stkSub b z)).elim hL hb) hc) (fun b o _ _ hc e n=>u.any e n hc) (fun b o hc e n=>u.free b o e n hc) (fun b o hc e=>u.there b o e hc) u.tups u.frzs u.tbls (fun m' hm=>by
  obtain ⟨o',es',ep',ho',r'⟩:=hm
  rw [ho] at ho';cases ho'
  exact ⟨_,es',ep',hL,r'⟩) hok hg
theorem Inv.turned {t':Nat} {it:Addr} (I:Inv X pins σ H s) (k:∀ b o,b≠it->s.heap.get? b=some o->h'.get? b=some o) (hn:H it=none) (hL:it≠X.env.locals)
  (h1:it∈X.ex\/X.s₀.heap.objs.size<=it) (h2:∀ x c,X.env.cells.lookup x=some c->c≠it) (h3:∀ p∈X.pn++pins,p.1≠it):Inv X pins σ H { s with heap:=h',toks:=t' }:=by
 have nit:∀ b u,H b=some u->b≠it:=fun b u e z=>by rw [z,hn] at e;cases e
 refine I.step (g':=s.gens) (d':=s.drawn) (ch:=[it]) (fun b hb=>?_) (fun b o _ _ hc e _=>k b o (fun z=>hc (by simp [z])) e) (fun b o _ _ hc e _=>⟨o.slots,k b o (fun z=>hc (by simp [z])) e⟩) (fun _ _ _ _ n=>n)
  (fun b o hc e=>⟨o,k b o (fun z=>hc (by simp [z])) e⟩) (fun _ _ e=>e) (fun _ _ _ e=>e) (fun b ps e=>⟨#[],by rw [e];simp⟩) (fun m hm=>?_) (fun b u e=>?_) I.bare
 ·have e:b=it:=by simpa using hb
  subst e
  exact ⟨h1,hL,h2,h3⟩
 ·obtain ⟨o,es,ep,ho,r⟩:=hm
  exact ⟨o,es,ep,k _ o (Ne.symm hL) ho,r⟩
 ·refine (I.hok b u e).stay (fun c v hc q=>k c v ?_ q) (fun _ q=>q) fun _ _ q=>q
  rcases hc with z | z
  ·rw [z];exact nit b u e
  ·exact nit c _ z
theorem Inv.tok (I:Inv X pins σ H s) (t:Nat):Inv X pins σ H { s with toks:=t }:=I.un (h':=s.heap) (t':=t) Un.refl I.hok
theorem Inv.kept {t':Nat} (I:Inv X pins σ H s) (k:∀ b u,s.heap.get? b=some u->h'.get? b=some u):Inv X pins σ H { s with heap:=h',toks:=t' }:=I.un (Un.kept k) (I.hok.kept k)
theorem Inv.laid {a:Addr} {o:HO} {t':Nat} (I:Inv X pins σ H s) (k:∀ b u,s.heap.get? b=some u->h'.get? b=some u) (hp:s.heap.objs.size<=a) (new:cK X.prog X.w (upd H a o) h' a o) :
  Inv X pins σ (upd H a o) { s with heap:=h',toks:=t' }:=I.un (Un.laid k hp (I.hok.fresh hp)) (I.hok.laid k hp new)
theorem Inv.write {x e:Addr} {o:HO} {t':Nat} (I:Inv X pins σ H s) (mu:Hk (H x)) (he:e=x\/H e=some (.own x)) (k:∀ b u,b≠e->s.heap.get? b=some u->h'.get? b=some u) (heo:∃ u,h'.get? e=some u)
  (new:cK X.prog X.w (upd H x o) h' x o):Inv X pins σ (upd H x o) { s with heap:=h',toks:=t' }:=I.un (Un.write mu he k heo) (I.hok.write mu he k heo new)
theorem Inv.weak {σ':List (Option V)} (I:Inv X pins σ H s) (hl:σ'.length=σ.length) (w:∀ (i:Nat) v,σ'[i]?=some (some v)->σ[i]?=some (some v)):Inv X pins σ' H s :=
 ⟨I.ok,I.os,I.bare,I.base,let ⟨m,hn,hl'⟩:=I.loc;⟨m,hn,fun i x v e1 e2 e3=>hl' i x v e1 (w i v e2) e3⟩,I.cell,I.free,I.freeC,I.pin,I.hok,hl.trans I.len⟩
theorem Inv.pins_of {pins':List (Addr × Obj)} (I:Inv X pins σ H s) (h:∀ p∈pins',s.heap.get? p.1=some p.2/\H p.1=none/\p.1≠X.env.locals/\p.1 ∉ X.fs/\∀ v,p.2.data≠.cell v):Inv X pins' σ H s :=
 ⟨I.ok,I.os,I.bare,I.base,I.loc,I.cell,I.free,I.freeC,fun p hp=>(List.mem_append.mp hp).elim (fun z=>I.pin p (List.mem_append_left _ z)) (h p),I.hok,I.len⟩
theorem BH {N:List Str} (hN:N.Nodup) {i j:Nat} {x:Str} (a:N[i]?=some x) (b:N[j]?=some x):i=j:=by
 obtain ⟨h1,e1⟩:=List.getElem?_eq_some_iff.mp a
 obtain ⟨h2,e2⟩:=List.getElem?_eq_some_iff.mp b
 exact (List.getElem_inj hN).mp (e1.trans e2.symm)
theorem Bg {M:Model} {A:Around} {E:Value->Shared->Prop} {i:Nat} {x:Str} {v:V} {u:Value} {Q:Unit->Shared->Prop} (I:Inv X pins σ H s) (hN:X.N.Nodup) (hi:X.N[i]?=some x) (hx:Loc X.env.scope x) (r:RelV v u)
  (h:∀ s',Inv X pins (σ.set i (some v)) H s'->(∃ a,Heap.SameBut a s.heap s'.heap/\(a=X.env.locals\/X.env.cells.lookup x=some a))->Q () s') (hf:X.fn x=true\/X.env.scope.names.lookup x=some .local:=by first | exact .inl rfl | exact .inr rfl | assumption):wpAny M A (storeName X.env x u) Q E s:=by
 obtain ⟨m,hn,hl⟩:=id I.loc
 have hcls:(X.env.scope.kind == .class || (X.env.scope.kind == .module && X.env.locals != X.env.globals))=false:=by rw [I.ok.kind];rfl
 have hiσ:i < σ.length:=by rw [I.len];exact (List.getElem?_eq_some_iff.mp hi).1
 have cne:=I.cne
 have tracked:∀ {a:Addr} {h':Heap},(∃ o,s.heap.get? a=some o/\H a=none)->Heap.SameBut a s.heap h'->gE X.prog X.w H h':=fun {a h'} ha hs b ob e=>by
  obtain ⟨_,_,hfree⟩:=ha
  refine (I.hok b ob e).stay (fun c w' hc q=>(hs.2 c ?_).trans q) (fun _ q=>q) fun _ _ q=>q
  rintro rfl
  rcases hc with rfl | hc
  ·rw [hfree] at e;cases e
  ·rw [hfree] at hc;cases hc
 rcases hx with hk | hk
 ·refine wpAny_storeName_local hk hn (fun h' hn' hs=>?_) hcls
  obtain ⟨oL,_,_,hoL,_⟩:=id hn
  refine h _ ⟨I.ok,I.os,I.bare,⟨fun b o e n hb hx=>?_,fun b o e n hb hx=>?_,I.base.free,fun b o e hx=>?_,I.base.tups,I.base.frzs,I.base.tbls⟩,⟨_,hn',fun j y v' e1 e2 e3=>?_⟩,fun y c e=>?_,I.free,I.freeC,fun p hp=>?_,tracked ⟨oL,hoL,I.free⟩ hs,by simpa using I.len⟩ ⟨_,hs,.inl rfl⟩
  ·exact (hs.2 b (Nat.ne_of_lt (Nat.lt_of_lt_of_le (Heap.lt_size e) I.ok.above))).trans (I.base.keep b o e n hb hx)
  ·obtain ⟨sl,e1⟩:=I.base.slot b o e n hb hx
   exact ⟨sl,(hs.2 b (Nat.ne_of_lt (Nat.lt_of_lt_of_le (Heap.lt_size e) I.ok.above))).trans e1⟩
  ·obtain ⟨o',e1⟩:=I.base.there b o e hx
   exact ⟨o',(hs.2 b (Nat.ne_of_lt (Nat.lt_of_lt_of_le (Heap.lt_size e) I.ok.above))).trans e1⟩
  ·by_cases hj:j=i
   ·subst hj
    rw [hi] at e1;cases e1
    rw [List.getElem?_set_self hiσ] at e2
    cases e2
    exact ⟨u,r,.inl ⟨hk,by simp⟩⟩
   ·rw [List.getElem?_set_ne (Ne.symm hj)] at e2
    obtain ⟨u',r',q⟩:=hl j y v' e1 e2 e3
    refine ⟨u',r',?_⟩
    rcases q with ⟨k,e⟩ | ⟨k,c,e,z⟩
    ·refine .inl ⟨k,?_⟩
     have:y≠x:=fun e=>hj (BH hN e1 (e ▸ hi))
     simp [this,e]
    ·exact .inr ⟨k,c,e,z.sameBut hs (cne y c e)⟩
  ·obtain ⟨w',z⟩:=I.cell y c e
   exact ⟨w',z.sameBut hs (cne y c e)⟩
  ·obtain ⟨e,n,ne,nf,d⟩:=I.pin p hp
   exact ⟨(hs.2 p.1 ne).trans e,n,ne,nf,d⟩
 ·have hfn:X.fn x=true:=by
   rcases hf with z | z
   ·exact z
   ·rw [z] at hk;cases hk
  obtain ⟨c,hc⟩:=I.ok.has x (.inl hk)
  obtain ⟨w',z⟩:=I.cell x c hc
  refine wpAny_storeName_cell I.ok.kind hk hc z (fun h' hc' hs=>?_)
  obtain ⟨oc,hoc,hocd⟩:=id z
  refine h { s with heap:=h' } ⟨I.ok,I.os,I.bare,⟨fun b o e n hb hx=>?_,fun b o e n hb hx=>?_,I.base.free,fun b o e hx=>?_,I.base.tups,I.base.frzs,I.base.tbls⟩,⟨m,hn.sameBut hs (Ne.symm (cne x c hc)),fun j y v' e1 e2 e3=>?_⟩,fun y c' e=>?_,I.free,I.freeC,fun p hp=>?_,tracked ⟨oc,hoc,I.freeC x c hc⟩ hs,by simpa using I.len⟩ ⟨c,hs,.inr hc⟩
  ·exact (hs.2 b (Nat.ne_of_lt (Nat.lt_of_lt_of_le (Heap.lt_size e) (I.ok.cab x c hfn hc)))).trans (I.base.keep b o e n hb hx)
  ·obtain ⟨sl,e1⟩:=I.base.slot b o e n hb hx
   exact ⟨sl,(hs.2 b (Nat.ne_of_lt (Nat.lt_of_lt_of_le (Heap.lt_size e) (I.ok.cab x c hfn hc)))).trans e1⟩
  ·obtain ⟨o',e1⟩:=I.base.there b o e hx
   exact ⟨o',(hs.2 b (Nat.ne_of_lt (Nat.lt_of_lt_of_le (Heap.lt_size e) (I.ok.cab x c hfn hc)))).trans e1⟩
  ·by_cases hj:j=i
   ·subst hj
    rw [hi] at e1;cases e1
    rw [List.getElem?_set_self hiσ] at e2
    cases e2
    exact ⟨u,r,.inr ⟨.inl hk,c,hc,hc'⟩⟩
   ·rw [List.getElem?_set_ne (Ne.symm hj)] at e2
    obtain ⟨u',r',q⟩:=hl j y v' e1 e2 e3
    refine ⟨u',r',?_⟩
    rcases q with q | ⟨k,c',e,z'⟩
    ·exact .inl q
    ·refine .inr ⟨k,c',e,z'.sameBut hs ?_⟩
     rintro rfl
     exact hj (BH hN e1 (I.ok.inj _ _ _ e hc ▸ hi))
  ·by_cases hcc:c'=c
   ·subst hcc;exact ⟨_,hc'⟩
   ·obtain ⟨w2,z2⟩:=I.cell y c' e
    exact ⟨w2,z2.sameBut hs hcc⟩
  ·obtain ⟨e,n,ne,nf,d⟩:=I.pin p hp
   refine ⟨(hs.2 p.1 ?_).trans e,n,ne,nf,d⟩
   intro q
   rw [q,hoc] at e
   have q':oc=p.2:=Option.some.inj e
   exact d w' (by rw [<- q'];exact hocd)
theorem CP {M:Model} {A:Around} {E:Value->Shared->Prop} {i:Nat} {x:Str} {v:V} {u:Value} {Q:Unit->Shared->Prop} (I:Inv X pins σ H s) (hN:X.N.Nodup) (hi:X.N[i]?=some x) (hx:Loc X.env.scope x) (r:RelV v u)
  (h:∀ s',Inv X pins (σ.set i (some v)) H s'->Q () s') (hf:X.fn x=true\/X.env.scope.names.lookup x=some .local:=by first | exact .inl rfl | exact .inr rfl | assumption):wpAny M A (storeName X.env x u) Q E s :=
 Bg I hN hi hx r (fun s' I' _=>h s' I') hf
theorem Inv.call' {s':Shared} {ch:List Addr} (I:Inv X pins σ H s) (ho:s'.os=s.os) (u:Un (r9 X.stack) ch H H' s.heap s'.heap) (hok:gE X.prog X.w H' s'.heap) (hg:AllBare s'.gens)
  (hch:∀ b∈ch,(b∈X.ex\/X.s₀.heap.objs.size<=b)/\b≠X.env.locals/\(∀ x c,X.env.cells.lookup x=some c->c≠b)/\∀ p∈X.pn++pins,p.1≠b):Inv X pins σ H' s':=by
 obtain ⟨h',g',d',t',o'⟩:=s'
 have e:o'=s.os:=ho
 subst e
 exact I.call (g':=g') (t':=t') (d':=d') u hok hg hch
end
abbrev XK:=Value->Option Addr->Hp->Prop
abbrev St:=List (Option V)
abbrev VK:=V->Hp->Prop
abbrev TE:=St->Hp->VK->Prop
abbrev TT:=St->Hp->(Bool->Hp->Prop)->Prop
abbrev TA:=St->Hp->(List V->Hp->Prop)->Prop
structure Ends where
 nx:St->Hp->Prop
 rt:VK
 bk:St->Hp->Prop:=fun _ _=>False
 ct:St->Hp->Prop:=fun _ _=>False
abbrev TS:=Ends->St->Hp->Prop
def EP (X:Cx) (pins:List (Addr × Obj)) (σ:St) (Q:VK) (u:Value) (s':Shared):Prop:=∃ v H',Inv X pins σ H' s'/\RelV v u/\Q v H'
def TP (X:Cx) (pins:List (Addr × Obj)) (σ:St) (Q:Bool->Hp->Prop) (b:Bool) (s':Shared):Prop:=∃ H',Inv X pins σ H' s'/\Q b H'
def AP (X:Cx) (pins:List (Addr × Obj)) (σ:St) (Q:List V->Hp->Prop) (us:List Value) (s':Shared):Prop:=∃ vs H',Inv X pins σ H' s'/\Vals vs us/\Q vs H'
def SP (X:Cx) (pins:List (Addr × Obj)) (D:Ends) (f:Flow) (s':Shared):Prop :=
 match f with
 | .next=>∃ σ' H',Inv X pins σ' H' s'/\D.nx σ' H'
 | .brk=>∃ σ' H',Inv X pins σ' H' s'/\D.bk σ' H'
 | .cont=>∃ σ' H',Inv X pins σ' H' s'/\D.ct σ' H'
 | .ret u=>∃ v σ' H',Inv X pins σ' H' s'/\RelV v u/\D.rt v H'
def PE (X:Cx) (e:Expr) (t:TE):Prop :=
 ∀ (pins:List (Addr × Obj)) (s:Shared) (σ:St) (H:Hp) (Q:VK),Inv X pins σ H s->t σ H Q->wpAny (model X.prog X.w) X.A (eval e X.env) (EP X pins σ Q) X.xe s
def PT (X:Cx) (e:Expr) (t:TT):Prop :=
 ∀ (pins:List (Addr × Obj)) (s:Shared) (σ:St) (H:Hp) (Q:Bool->Hp->Prop),Inv X pins σ H s->t σ H Q->wpAny (model X.prog X.w) X.A (isTrue e X.env (eval e X.env)) (TP X pins σ Q) X.xe s
def PW (X:Cx) (e:Expr) (t:TT):Prop :=
 ∀ (whole:Sem Value) (pins:List (Addr × Obj)) (s:Shared) (σ:St) (H:Hp) (Q:Bool->Hp->Prop),Inv X pins σ H s->t σ H Q->wpAny (model X.prog X.w) X.A (isTrue e X.env whole) (TP X pins σ Q) X.xe s
theorem PW.pt {X:Cx} {e:Expr} {t:TT} (h:PW X e t):PT X e t:=h _
def PA (X:Cx) (es:List Expr) (t:TA):Prop :=
 ∀ (pos:Pos) (pins:List (Addr × Obj)) (s:Shared) (σ:St) (H:Hp) (Q:List V->Hp->Prop),Inv X pins σ H s->t σ H Q->wpAny (model X.prog X.w) X.A (spliced (backTo pos (starEach es X.env))) (AP X pins σ Q) X.xe s
def PS (X:Cx) (st:Stmt) (t:TS):Prop :=
 ∀ (pins:List (Addr × Obj)) (s:Shared) (σ:St) (H:Hp) (D:Ends),Inv X pins σ H s->t D σ H->wpAny (model X.prog X.w) X.A (exec st X.env) (SP X pins D) X.xe s
def qH (X:Cx) (st:List Stmt) (t:TS):Prop :=
 ∀ (pins:List (Addr × Obj)) (s:Shared) (σ:St) (H:Hp) (D:Ends),Inv X pins σ H s->t D σ H->wpAny (model X.prog X.w) X.A (execs st X.env) (SP X pins D) X.xe s
theorem bE {α:Type} {t:Sem α} {Q Q':α->Shared->Prop} {M:Model} {A:Around} {E:Value->Shared->Prop} {s:Shared} (h:wpAny M A t Q E s) (hQ:∀ a s,Q a s->Q' a s):wpAny M A t Q' E s:=wpAny_mono h hQ fun _ _ x=>x
section
variable {X:Cx}
theorem bin {a b:Expr} {ta tb:TE} (ha:PE X a ta) (hb:PE X b tb) {pins:List (Addr × Obj)} {s:Shared} {σ:St} {H:Hp} {R:V->V->Hp->Prop} (I:Inv X pins σ H s) (h:ta σ H fun x H1=>tb σ H1 fun y H2=>R x y H2)
  {α:Type} {Q:α->Shared->Prop} {f:Value->Value->Sem α}
  (hf:∀ v u s2 x y H2,Inv X pins σ H2 s2->RelV x v->RelV y u->R x y H2->wpAny (model X.prog X.w) X.A (f v u) Q X.xe s2) :
  wpAny (model X.prog X.w) X.A (eval a X.env) (fun v s₁=>wpAny (model X.prog X.w) X.A (eval b X.env) (fun u s₂=>wpAny (model X.prog X.w) X.A (f v u) Q X.xe s₂) X.xe s₁) X.xe s:=by
 refine bE (ha pins s σ H _ I h) fun v s1 ⟨x,H1,I1,r1,q1⟩=>?_
 refine bE (hb pins s1 σ H1 _ I1 q1) fun u s2 ⟨y,H2,I2,r2,q2⟩=>?_
 exact hf v u s2 x y H2 I2 r1 r2 q2
def K1 (i:Nat):TE:=fun σ H Q=>∃ v,σ[i]?=some (some v)/\Q v H
def tC (v:V):TE:=fun _ H Q=>Q v H
theorem HD {i:Nat} {x:Str} {pos:Pos} (hN:X.N[i]?=some x) (hv:HA X.env.scope x) (hd:(x == ("__debug__":Str))=false:=by decide) (hcd:(x == ("__classdict__":Str))=false:=by decide):PE X (.Name x pos) (K1 i):=by
 intro pins s σ H Q I h
 obtain ⟨v,e,h⟩:=h
 obtain ⟨m,hn,hl⟩:=I.loc
 obtain ⟨u,r,l⟩:=hl i x v hN e hv
 have fin:EP X pins σ Q u s:=⟨v,H,I,r,h⟩
 rcases l with ⟨hk,hm⟩ | ⟨hk,c,hc,hcell⟩
 ·exact wpAny_Name (wpAny_loadName_local I.ok.kind hk hn hm fin) hd
 ·rcases hk with hk | hk
  ·exact wpAny_Name (wpAny_loadName_cell I.ok.kind hk hc hcell fin) hd
  ·exact wpAny_Name (wpAny_loadName_free I.ok.kind hk hc hcell fin hcd) hd
theorem PH {i j pos}:PE X (.Constant (.int i) j pos) (tC (.int i)):=fun _ _ _ H _ I h=>wpAny_Constant_int ⟨.int i,H,I.tok _,⟨_,rfl⟩,h⟩
theorem P8 {b j pos}:PE X (.Constant (.bool b) j pos) (tC (.bl b)):=fun _ _ _ H _ I h=>Constant_bool ⟨.bl b,H,I,rfl,h⟩
theorem Pk {j pos}:PE X (.Constant .none j pos) (tC .non):=fun _ _ _ H _ I h=>Constant_none ⟨.non,H,I,rfl,h⟩
theorem O7 {x j pos}:PE X (.Constant (.str x) j pos) (tC (.str x)):=fun _ _ _ H _ I h=>Calls.Constant_str ⟨.str x,H,I.tok _,⟨_,rfl⟩,h⟩
def Gl (X:Cx) (x:Str):Prop:=X.env.kindOf x=some .globalImplicit
theorem El {E:Value->Shared->Prop} {pins:List (Addr × Obj)} {s:Shared} {σ:St} {H:Hp} {x:Str} {u:Value} {pos:Pos} {Q:Value->Shared->Prop} (I:Inv X pins σ H s) (hg:Gl X x) (hm:X.mg x=some u) (h:Q u s)
  (hd:(x == ("__debug__":Str))=false:=by decide):wpAny (model X.prog X.w) X.A (eval (.Name x pos) X.env) Q E s :=
 Calls.Name_function_global I.ok.kind hg (Calls.loadGlobal_global (by rw [I.ok.glob];exact I.mod.glob.keeps I.bk) hm h) hd
theorem nK {E:Value->Shared->Prop} {pins:List (Addr × Obj)} {s:Shared} {σ:St} {H:Hp} {x:Str} {u:Value} {pos:Pos} {Q:Value->Shared->Prop} (I:Inv X pins σ H s) (hg:Gl X x) (hm:X.mg x=none) (hv:bootBuiltins x=some u) (h:Q u s)
  (hn:x≠"__name__":=by decide) (hd:(x == ("__debug__":Str))=false:=by decide):wpAny (model X.prog X.w) X.A (eval (.Name x pos) X.env) Q E s:=by
 obtain ⟨mb,h1,h2⟩:=I.mod.blt
 exact Calls.Name_function_global I.ok.kind hg (Calls.loadGlobal_builtin (by rw [I.ok.glob];exact I.mod.glob.keeps I.bk) hm (by rw [I.ok.blt];exact h1.keeps I.bk) ((h2 x hn).trans hv) h) hd
theorem L3 {x:Str} {v:V} {u:Value} {pos:Pos} (hg:Gl X x) (hm:X.mg x=some u) (r:RelV v u) (hd:(x == ("__debug__":Str))=false:=by decide):PE X (.Name x pos) (tC v) :=
 fun _ _ _ H _ I h=>El I hg hm ⟨v,H,I,r,h⟩ hd
theorem Nl {x:Str} {v:V} {u:Value} {pos:Pos} (hg:Gl X x) (hm:X.mg x=none) (hv:bootBuiltins x=some u) (r:RelV v u) (hn:x≠"__name__":=by decide) (hd:(x == ("__debug__":Str))=false:=by decide):PE X (.Name x pos) (tC v) :=
 fun _ _ _ H _ I h=>nK I hg hm hv ⟨v,H,I,r,h⟩ hn hd
def Rm (ta tb:TE) (k:Int->Int->Hp->Prop):St->Hp->Prop:=fun σ H=>ta σ H fun x H1=>tb σ H1 fun y H2=>∃ i j,x=.int i/\y=.int j/\k i j H2
variable {a b:Expr} {ta tb:TE} {pos:Pos}
def AQ (p:Int->Int->Bool) (ta tb:TE):TE:=fun σ H Q=>Rm ta tb (fun i j H2=>Q (.bl (p i j)) H2) σ H
abbrev Ry:TE->TE->TE:=AQ fun i j=>decide (i < j)
abbrev Rx:TE->TE->TE:=AQ fun i j=>decide (i<=j)
abbrev RC:TE->TE->TE:=AQ fun i j=>decide (j < i)
abbrev RA:TE->TE->TE:=AQ fun i j=>decide (j<=i)
abbrev Rt:TE->TE->TE:=AQ fun i j=>decide (i=j)
abbrev Rv:TE->TE->TE:=AQ fun i j=>!decide (i=j)
variable {tA tB':TT} {rest:List Expr}
def Oc (t u:TT):TT:=fun σ H Q=>t σ H fun c H1=>if c=true then u σ H1 Q else Q false H1
def QZ (t u:TT):TT:=fun σ H Q=>t σ H fun c H1=>if c=true then Q true H1 else u σ H1 Q
def Pg (t:TT):TT:=fun σ H Q=>t σ H fun c H1=>Q (!c) H1
theorem MD (ha:PT X a tA):PW X (.BoolOp .And [a] pos) tA:=by
 intro wh pins s σ H Q I h
 refine isTrue_and (bE (ha pins s σ H Q I h) fun c s1 e=>?_)
 cases c with
 | true=>exact isTrue_and_nil e
 | false=>exact e
theorem N4 (ha:PT X a tA):PW X (.BoolOp .Or [a] pos) tA:=by
 intro wh pins s σ H Q I h
 refine isTrue_or (bE (ha pins s σ H Q I h) fun c s1 e=>?_)
 cases c with
 | false=>exact isTrue_or_nil e
 | true=>exact e
theorem NQ (ha:PT X a tA) (hb:PW X (.BoolOp .And (b :: rest) pos) tB'):PW X (.BoolOp .And (a :: b :: rest) pos) (Oc tA tB'):=by
 intro wh pins s σ H Q I h
 refine isTrue_and (bE (ha pins s σ H _ I h) fun c s1 ⟨H1,I1,q1⟩=>?_)
 cases c with
 | true=>exact hb wh pins s1 σ H1 Q I1 q1
 | false=>exact ⟨H1,I1,q1⟩
theorem Qp (ha:PT X a tA) (hb:PW X (.BoolOp .Or (b :: rest) pos) tB'):PW X (.BoolOp .Or (a :: b :: rest) pos) (QZ tA tB'):=by
 intro wh pins s σ H Q I h
 refine isTrue_or (bE (ha pins s σ H _ I h) fun c s1 ⟨H1,I1,q1⟩=>?_)
 cases c with
 | true=>exact ⟨H1,I1,q1⟩
 | false=>exact hb wh pins s1 σ H1 Q I1 q1
theorem Pa (ha:PT X a tA):PT X (.UnaryOp .Not a pos) (Pg tA):=by
 intro pins s σ H Q I h
 exact isTrue_not (ha pins s σ H (fun c H1=>Q (!c) H1) I h)
def LH (ta tb:TE):TE:=fun σ H Q=>ta σ H fun x H1=>∃ c,x=.bl c/\if c=true then tb σ H1 Q else Q (.bl false) H1
def OZ (ta tb:TE):TE:=fun σ H Q=>ta σ H fun x H1=>∃ c,x=.bl c/\if c=true then Q (.bl true) H1 else tb σ H1 Q
def Lz (ta:TE):TE:=fun σ H Q=>ta σ H fun x H1=>∃ c,x=.bl c/\Q (.bl (!c)) H1
theorem OR {op} {t:TE} (h:PE X a t):PE X (.BoolOp op [a] pos) t:=fun pins s σ H Q I hw=>BoolOp_one (h pins s σ H Q I hw)
theorem NN (ha:PE X a ta) (hb:PE X (.BoolOp .And (b :: rest) pos) tb):PE X (.BoolOp .And (a :: b :: rest) pos) (LH ta tb):=by
 intro pins s σ H Q I h
 refine BoolOp_and (bE (ha pins s σ H _ I h) fun v s1 ⟨x,H1,I1,r1,q1⟩=>?_)
 obtain ⟨c,rfl,q1⟩:=q1
 cases r1
 refine wpAny_truthy_bool ?_
 cases c with
 | true=>exact hb pins s1 σ H1 Q I1 q1
 | false=>exact ⟨.bl false,H1,I1,rfl,q1⟩
theorem QL (ha:PE X a ta) (hb:PE X (.BoolOp .Or (b :: rest) pos) tb):PE X (.BoolOp .Or (a :: b :: rest) pos) (OZ ta tb):=by
 intro pins s σ H Q I h
 refine BoolOp_or (bE (ha pins s σ H _ I h) fun v s1 ⟨x,H1,I1,r1,q1⟩=>?_)
 obtain ⟨c,rfl,q1⟩:=q1
 cases r1
 refine wpAny_truthy_bool ?_
 cases c with
 | false=>exact hb pins s1 σ H1 Q I1 q1
 | true=>exact ⟨.bl true,H1,I1,rfl,q1⟩
theorem NL (ha:PE X a ta):PE X (.UnaryOp .Not a pos) (Lz ta):=by
 intro pins s σ H Q I h
 refine UnaryOp_ (bE (ha pins s σ H _ I h) fun v s1 ⟨x,H1,I1,r1,q1⟩=>?_)
 obtain ⟨c,rfl,q1⟩:=q1
 cases r1
 exact not_of (wpAny_truthy_bool ⟨.bl (!c),H1,I1,rfl,q1⟩)
def QS (t:TT) (ta tb:TE):TE:=fun σ H Q=>t σ H fun c H1=>if c=true then ta σ H1 Q else tb σ H1 Q
theorem IP {c:Expr} (hc:PT X c tA) (ha:PE X a ta) (hb:PE X b tb):PE X (.IfExp c a b pos) (QS tA ta tb):=by
 intro pins s σ H Q I h
 refine wpAny_IfExp (bE (hc pins s σ H _ I h) fun d s1 ⟨H1,I1,q1⟩=>?_)
 cases d with
 | true=>exact ha pins s1 σ H1 Q I1 q1
 | false=>exact hb pins s1 σ H1 Q I1 q1
end
def dY (K:PySem.W.Frag) (H:Hp) (a:Addr) (xs:List V):Prop :=
 Rd H a (.lst xs) \/
  ∃ (o:Obj) (its:Array Value) (n:Nat),K.lookup a=some o/\o.cls=.type "list"/\o.dict=none/\o.data=.seq its n/\its.size<=sizeLine/\Vals xs its.toList
def eW (K:PySem.W.Frag) (H:Hp) (a:Addr) (xs:List V):Prop :=
 Rd H a (.tup xs) \/
  ∃ (o:Obj) (its:Array Value) (n:Nat),K.lookup a=some o/\o.cls=.type "tuple"/\o.dict=none/\o.data=.seq its n/\its.size<=sizeLine/\Vals xs its.toList
def Q5:Value->Option V
 | .none=>some .non
 | .bool b=>some (.bl b)
 | .int i _=>some (.int i)
 | .str x _=>some (.str x)
 | .bytes b _=>some (.byt b)
 | .float b _=>some (.flt b)
 | .ref a=>some (.ref a)
 | .type n=>some (.ty n)
 | _=>none
theorem RelV.abs {x:V} {u:Value} (r:RelV x u):Q5 u=some x:=by
 cases x with
 | non=>cases r;rfl
 | bl _=>cases r;rfl
 | int _=>obtain ⟨t,rfl⟩:=r;rfl
 | str _=>obtain ⟨t,rfl⟩:=r;rfl
 | byt _=>obtain ⟨t,rfl⟩:=r;rfl
 | flt _=>obtain ⟨t,rfl⟩:=r;rfl
 | ref _=>cases r;rfl
 | ty _=>cases r;rfl
theorem RelV.inj {x y:V} {u:Value} (r:RelV x u) (q:RelV y u):x=y:=Option.some.inj (r.abs.symm.trans q.abs)
theorem Vals.inj:∀ {xs ys:List V} {us:List Value},Vals xs us->Vals ys us->xs=ys
 | _,_,_,.nil,.nil=>rfl
 | _,_,_,.cons r t,.cons r' t'=>by rw [r.inj r',Vals.inj t t']
section
variable {X:Cx} {pins:List (Addr × Obj)} {σ:St} {H:Hp} {s:Shared} {a:Addr} {xs ys:List V}
theorem Inv.list (I:Inv X pins σ H s) (h:dY X.K H a xs):∃ its:List Value,Vals xs its/\PlainL s.heap a its.toArray/\xs.length<=sizeLine:=by
 rcases h with h | ⟨o,its,n,hk,hc,hd,hs,hz,r⟩
 ·obtain ⟨z,its,n,r,e⟩:=h.ok I.hok
  exact ⟨its,r,⟨_,n,e,rfl,rfl,rfl⟩,z⟩
 ·refine ⟨its.toList,r,⟨o,n,I.kIn a o hk,hc,hd,by simpa using hs⟩,?_⟩
  have e:=r.length
  simp only [Array.length_toList] at e
  omega
theorem Inv.tupleP (I:Inv X pins σ H s) (h:eW X.K H a xs):∃ its:List Value,Vals xs its/\iS s.heap a its.toArray/\xs.length<=sizeLine:=by
 rcases h with h | ⟨o,its,n,hk,hc,hd,hs,hz,r⟩
 ·obtain ⟨z,its,r,p⟩:=h.ok I.hok
  exact ⟨its,r,p,z⟩
 ·refine ⟨its.toList,r,⟨o,I.kIn a o hk,hc,hd,n,by simpa using hs⟩,?_⟩
  have e:=r.length
  simp only [Array.length_toList] at e
  omega
theorem Inv.tuple (I:Inv X pins σ H s) (h:eW X.K H a xs):∃ its:List Value,Vals xs its/\IsTup s.heap a its.toArray/\xs.length<=sizeLine:=by
 obtain ⟨its,r,p,z⟩:=I.tupleP h
 exact ⟨its,r,p.tup,z⟩
theorem Inv.list_inj (I:Inv X pins σ H s) (h:dY X.K H a xs) (h':dY X.K H a ys):xs=ys:=by
 obtain ⟨its,r,⟨o,n,e,_,_,d⟩,_⟩:=I.list h
 obtain ⟨its',r',⟨o',n',e',_,_,d'⟩,_⟩:=I.list h'
 rw [e] at e';cases e'
 rw [d] at d'
 injection d' with d1 _
 have:its=its':=by simpa using congrArg Array.toList d1
 subst this
 exact r.inj r'
theorem Inv.tuple_inj (I:Inv X pins σ H s) (h:eW X.K H a xs) (h':eW X.K H a ys):xs=ys:=by
 obtain ⟨its,r,⟨o,e,_,n,d⟩,_⟩:=I.tuple h
 obtain ⟨its',r',⟨o',e',_,n',d'⟩,_⟩:=I.tuple h'
 rw [e] at e';cases e'
 rw [d] at d'
 injection d' with d1 _
 have:its=its':=by simpa using congrArg Array.toList d1
 subst this
 exact r.inj r'
end
abbrev Cx.wish (X:Cx) (E:Value->Shared->Prop):Cx:={ X with xe:=E }
abbrev Cx.nox (X:Cx):Cx:=X.wish fun _ _=>False
theorem Cx.Ok.wish {X:Cx} (ok:X.Ok) (E:Value->Shared->Prop):(X.wish E).Ok :=
 ⟨ok.mod,ok.kind,ok.glob,ok.blt,ok.above,ok.inj,ok.has,ok.cab,ok.hd,ok.frames,ok.stk,ok.exf,ok.bs,ok.bsz,ok.noex,ok.exfs,ok.funs,ok.frf⟩
theorem Cx.Ok.unwish {X:Cx} {E:Value->Shared->Prop} (ok:(X.wish E).Ok):X.Ok :=
 ⟨ok.mod,ok.kind,ok.glob,ok.blt,ok.above,ok.inj,ok.has,ok.cab,ok.hd,ok.frames,ok.stk,ok.exf,ok.bs,ok.bsz,ok.noex,ok.exfs,ok.funs,ok.frf⟩
section
variable {X:Cx} {pins:List (Addr × Obj)} {σ:St} {H:Hp} {s:Shared} {E:Value->Shared->Prop}
theorem Inv.wish (I:Inv X pins σ H s) (E:Value->Shared->Prop):Inv (X.wish E) pins σ H s:=⟨I.ok.wish E,I.os,I.bare,I.base,I.loc,I.cell,I.free,I.freeC,I.pin,I.hok,I.len⟩
theorem Inv.unwish (I:Inv (X.wish E) pins σ H s):Inv X pins σ H s:=⟨I.ok.unwish,I.os,I.bare,I.base,I.loc,I.cell,I.free,I.freeC,I.pin,I.hok,I.len⟩
theorem SP.unwish {D:Ends} {f:Flow} {s':Shared} (h:SP (X.wish E) pins D f s'):SP X pins D f s':=by
 cases f with
 | next=>obtain ⟨σ',H',I,q⟩:=h;exact ⟨σ',H',I.unwish,q⟩
 | brk=>obtain ⟨σ',H',I,q⟩:=h;exact ⟨σ',H',I.unwish,q⟩
 | cont=>obtain ⟨σ',H',I,q⟩:=h;exact ⟨σ',H',I.unwish,q⟩
 | ret u=>obtain ⟨v,σ',H',I,r,q⟩:=h;exact ⟨v,σ',H',I.unwish,r,q⟩
theorem qH.nox {st:List Stmt} {t:TS} (h:qH X.nox st t):qH X st t:=fun pins s σ H D I hw =>
 wpAny_mono (h pins s σ H D (I.wish _) hw) (fun _ _ q=>q.unwish) fun _ _ z=>False.elim z
end
section
variable {X:Cx} {st:Stmt} {rest:List Stmt} {t u:TS} {e:Expr} {te:TE} {pos:Pos}
def LO:TS:=fun D σ H=>D.nx σ H
def Og (t u:TS):TS:=fun D σ H=>t { D with nx:=u D } σ H
theorem MX:qH X [] LO:=fun _ _ σ H _ I h=>wpAny_execs_nil ⟨σ,H,I,h⟩
theorem KS (h1:PS X st t) (h2:qH X rest u):qH X (st :: rest) (Og t u):=by
 intro pins s σ H D I h
 refine wpAny_execs_cons (bE (h1 pins s σ H { D with nx:=u D } I h) fun f s1 q=>?_)
 cases f with
 | next =>
  obtain ⟨σ',H',I',q⟩:=q
  exact h2 pins s1 σ' H' D I' q
 | ret v=>exact q
 | brk=>exact q
 | cont=>exact q
theorem Nx (h1:PS X st t):qH X [st] t:=by
 intro pins s σ H D I h
 refine wpAny_execs_cons (bE (h1 pins s σ H D I h) fun f s1 q=>?_)
 cases f with
 | next=>exact wpAny_execs_nil q
 | ret v=>exact q
 | brk=>exact q
 | cont=>exact q
theorem Inv.quiet {pins:List (Addr × Obj)} {σ:St} {H:Hp} {s:Shared} (I:Inv X pins σ H s):interactive X.env=false:=by simp [interactive,I.ok.kind]
def Lh (te:TE):TS:=fun D σ H=>te σ H fun _ H1=>D.nx σ H1
theorem L4 (he:PE X e te) (hs:swapsWith e none pos.line X.env=pure false:=by rfl):PS X (.Expr e pos) (Lh te):=by
 intro pins s σ H D I h
 exact wpAny_Expr_any (bE (he pins s σ H _ I h) fun v s1 ⟨x,H1,I1,r1,q1⟩=>⟨σ,H1,I1,q1⟩) I.quiet hs
def NY (te:TE):TS:=fun D σ H=>te σ H D.rt
theorem PB (he:PE X e te):PS X (.Return (some e) pos) (NY te):=by
 intro pins s σ H D I h
 exact wpAny_Return_some (bE (he pins s σ H _ I h) fun v s1 ⟨x,H1,I1,r1,q1⟩=>⟨x,σ,H1,I1,r1,q1⟩)
def Py (c:TT) (t u:TS):TS:=fun D σ H=>c σ H fun b H1=>if b=true then t D σ H1 else u D σ H1
theorem QA {c:Expr} {a b:List Stmt} {tc:TT} (hc:PT X c tc) (ha:qH X a t) (hb:qH X b u):PS X (.If c a b pos) (Py tc t u):=by
 intro pins s σ H D I h
 refine wpAny_If (bE (hc pins s σ H _ I h) fun d s1 ⟨H1,I1,q1⟩=>?_)
 cases d with
 | true=>exact ha pins s1 σ H1 D I1 q1
 | false=>exact hb pins s1 σ H1 D I1 q1
end
abbrev TG:=V->St->Hp->(St->Hp->Prop)->Prop
abbrev oZ:=List V->St->Hp->(St->Hp->Prop)->Prop
def PG (X:Cx) (target:Expr) (t:TG):Prop :=
 ∀ (pins:List (Addr × Obj)) (s:Shared) (σ:St) (H:Hp) (v:V) (u:Value) (Q:St->Hp->Prop),Inv X pins σ H s->RelV v u->t v σ H Q ->
  wpAny (model X.prog X.w) X.A (assign target X.env u) (fun _ s'=>∃ σ' H',Inv X pins σ' H' s'/\Q σ' H') X.xe s
def HE (X:Cx) (ts:List Expr) (t:oZ):Prop :=
 ∀ (pins:List (Addr × Obj)) (s:Shared) (σ:St) (H:Hp) (vs:List V) (us:List Value) (Q:St->Hp->Prop),Inv X pins σ H s->Vals vs us->t vs σ H Q ->
  wpAny (model X.prog X.w) X.A (assignInOrder ((assignEach ts X.env).map (·.2)) us) (fun _ s'=>∃ σ' H',Inv X pins σ' H' s'/\Q σ' H') X.xe s
abbrev Je:=V->V->V->Hp->(Hp->Prop)->Prop
def N7 (X:Cx) (t:Je):Prop :=
 ∀ (pins:List (Addr × Obj)) (s:Shared) (σ:St) (H:Hp) (o i v:V) (ov iv u:Value) (Q:Hp->Prop),Inv X pins σ H s->RelV o ov->RelV i iv->RelV v u->t o i v H Q ->
  wpAny (model X.prog X.w) X.A (setItem ov iv u) (fun _ s'=>∃ H',Inv X pins σ H' s'/\Q H') X.xe s
abbrev Rz:=V->V->Hp->VK->Prop
section
variable {X:Cx} {pos:Pos}
def pX (i:Nat):TG:=fun v σ H Q=>Q (σ.set i (some v)) H
theorem Ez {i:Nat} {x:Str} (hN:X.N.Nodup) (hi:X.N[i]?=some x) (hx:Loc X.env.scope x) (hf:X.fn x=true\/X.env.scope.names.lookup x=some .local:=by first | exact .inl rfl | exact .inr rfl | assumption):PG X (.Name x pos) (pX i):=by
 intro pins s σ H v u Q I r h
 exact wpAny_assign_Name (CP I hN hi hx r (fun s' I'=>⟨_,H,I',h⟩) hf)
def CL:oZ:=fun vs σ H Q=>vs=[]/\Q σ H
def zX (t:TG) (u:oZ):oZ:=fun vs σ H Q=>∃ v r,vs=v :: r/\t v σ H fun σ' H'=>u r σ' H' Q
theorem Nh:HE X [] CL:=by
 intro pins s σ H vs us Q I r h
 obtain ⟨e,h⟩:=h
 subst e
 cases r
 exact assignInOrder_nil ⟨σ,H,I,h⟩
theorem Kl {e:Expr} {es:List Expr} {t:TG} {u:oZ} (h1:PG X e t) (h2:HE X es u)
  (hs:(assignEach (e :: es) X.env).map (·.2)=assign e X.env :: (assignEach es X.env).map (·.2):=by rfl):HE X (e :: es) (zX t u):=by
 intro pins s σ H vs us Q I r h
 obtain ⟨v,vr,e1,h⟩:=h
 subst e1
 cases r with
 | cons r rr =>
  rw [hs]
  refine assignInOrder_cons (bE (h1 pins s σ H _ _ _ I r h) fun _ s1 ⟨σ1,H1,I1,q1⟩=>?_)
  exact h2 pins s1 σ1 H1 _ _ Q I1 rr q1
def CC (K:PySem.W.Frag) (n:Nat) (t:oZ):TG:=fun v σ H Q=>∃ a xs,v=.ref a/\eW K H a xs/\xs.length=n/\t xs σ H Q
theorem N8 {es:List Expr} {k:Nat} {t:oZ} {n:Nat} (hc:X.calm=true) (h:HE X es t)
  (hn:(assignEach es X.env).length=n:=by rfl) (hst:(assignEach es X.env).findIdx? (·.1)=none:=by rfl):PG X (.Tuple es k pos) (CC X.K n t):=by
 intro pins s σ H v u Q I r hw
 obtain ⟨a,xs,e1,hq,hl,hw⟩:=hw
 subst e1
 cases r
 obtain ⟨its,rv,ht,hz⟩:=I.tuple hq
 refine assign_Tuple_tuple (I.ok.hd hc) ht (by simp [hn,<- hl,rv.length]) hst fun h' hx=>?_
 have I1:Inv X pins σ H { s with heap:=h' }:=I.kept (t':=s.toks) fun b o e=>hx b o (Nat.ne_of_lt (Heap.lt_size e)) e
 exact h pins _ σ H xs _ Q I1 (by simpa using rv) hw
def Rf (to ti:TE) (t:Je):TG:=fun v σ H Q=>to σ H fun o H1=>ti σ H1 fun i H2=>t o i v H2 fun H3=>Q σ H3
theorem OX {o i:Expr} {to ti:TE} {t:Je} (ho:PE X o to) (hi:PE X i ti) (hs:N7 X t)
  (ha:∀ v,assign (.Subscript o i pos) X.env v=(do
   let ov <- holding [v] (eval o X.env)
   let iv <- holding [v,ov] (eval i X.env)
   standAt pos
   holding [v,ov,iv] (setItem ov iv v)
   release [v,ov,iv] []):=by intro _;rfl):PG X (.Subscript o i pos) (Rf to ti t):=by
 intro pins s σ H v u Q I r h
 rw [ha]
 refine wpAny_bind (wpAny_holding (bE (ho pins s σ H _ I h) fun ov s1 ⟨x,H1,I1,r1,q1⟩=>?_))
 refine wpAny_bind (wpAny_holding (bE (hi pins s1 σ H1 _ I1 q1) fun iv s2 ⟨y,H2,I2,r2,q2⟩=>?_))
 refine wpAny_bind (wpAny_standAt (wpAny_bind (wpAny_holding (bE (hs pins s2 σ H2 x y v ov iv u _ I2 r1 r2 r q2) fun _ s3 ⟨H3,I3,q3⟩=>?_))))
 exact wpAny_release ⟨σ,H3,I3,q3⟩
def Gf (te:TE) (g:TG):TS:=fun D σ H=>te σ H fun x H1=>g x σ H1 D.nx
theorem OO {tg e:Expr} {te:TE} {g:TG} (he:PE X e te) (hg:PG X tg g) (hs:swapsWithSole [tg] e pos.line X.env=pure false:=by rfl) (hw:swappedStores [tg] e X.env=pure none:=by rfl)
  (h1:(assignEach [tg] X.env).map (·.2)=[assign tg X.env]:=by rfl):PS X (.Assign [tg] e pos) (Gf te g):=by
 intro pins s σ H D I h
 refine wpAny_Assign_stores (bE (he pins s σ H _ I h) fun v s1 ⟨x,H1,I1,r1,q1⟩=>?_) hs hw
 rw [h1]
 exact bE (hg pins s1 σ H1 x v _ I1 r1 q1) fun _ s2 q=>q
theorem Pc {i:Nat} {x:Str} {e:Expr} {te:TE} {pos':Pos} (hN:X.N.Nodup) (hi:X.N[i]?=some x) (hx:Loc X.env.scope x) (he:PE X e te) (hs:swapsWith e (some (.Name x pos')) pos.line X.env=pure false:=by rfl) (hf:X.fn x=true\/X.env.scope.names.lookup x=some .local:=by first | exact .inl rfl | exact .inr rfl | assumption) :
  PS X (.Assign [.Name x pos'] e pos) (Gf te (pX i)):=by
 intro pins s σ H D I h
 refine wpAny_Assign_Name (bE (he pins s σ H _ I h) fun v s1 ⟨y,H1,I1,r1,q1⟩=>?_) hs
 exact CP I1 hN hi hx r1 (fun s2 I2=>⟨_,H1,I2,q1⟩) hf
end
section
variable {X:Cx} {pos:Pos}
def IA (c:TT) (tb:TS):TS:=fun D σ H=>∃ W:Nat->St->Hp->Prop,(∃ m,W m σ H)/\∀ m σ H,W m σ H ->
 c σ H fun b H1=>if b=true then ∃ N:St->Hp->Prop,(∀ σ' H',N σ' H'->∃ m',m' < m/\W m' σ' H')/\tb { D with nx:=N,ct:=N,bk:=D.nx } σ H1 else D.nx σ H1
theorem KN {c:Expr} {body:List Stmt} {tc:TT} {tb:TS} (hp:PassesOwn (model X.prog X.w) X.A X.env X.xe) (hc:PT X c tc) (hb:qH X body tb):PS X (.While c body [] pos) (IA tc tb):=by
 intro pins s σ H D I h
 obtain ⟨W,⟨m0,w0⟩,turn⟩:=h
 refine wpAny_While (codeAny_whileLoop (fun n s'=>∃ σ' H',Inv X pins σ' H' s'/\W n σ' H') ?_ m0 ⟨σ,H,I,w0⟩)
 rintro n s1 ⟨σ1,H1,I1,w1⟩
 refine wpAny_passesOwn hp (bE (hc pins s1 σ1 H1 _ I1 (turn n σ1 H1 w1)) fun b s2 ⟨H2,I2,q2⟩=>?_)
 cases b with
 | true =>
  obtain ⟨N,hN,q2⟩:=q2
  rw [if_pos rfl]
  refine wpAny_passesOwn hp (bE (hb pins s2 σ1 H2 _ I2 q2) fun f s3 q3=>?_)
  cases f with
  | next =>
   obtain ⟨σ3,H3,I3,n3⟩:=q3
   obtain ⟨m',hm,w3⟩:=hN σ3 H3 n3
   exact ⟨m',hm,σ3,H3,I3,w3⟩
  | cont =>
   obtain ⟨σ3,H3,I3,n3⟩:=q3
   obtain ⟨m',hm,w3⟩:=hN σ3 H3 n3
   exact ⟨m',hm,σ3,H3,I3,w3⟩
  | brk=>exact q3
  | ret v=>exact q3
 | false =>
  rw [if_neg Bool.false_ne_true]
  exact wpAny_execs_nil ⟨σ1,H2,I2,q2⟩
end
structure It where
 go:Nat->Hp->Prop
 yld:Nat->Hp->V->Hp->Prop
 stop:Nat->Hp->Prop
def qP (X:Cx) (pins:List (Addr × Obj)) (H:Hp) (b:Addr):Prop :=
 H b=none/\b≠X.env.locals/\b ∉ X.fs/\(b∈X.ex\/X.s₀.heap.objs.size<=b)/\(∀ x c,X.env.cells.lookup x=some c->c≠b)/\∀ p∈X.pn++pins,p.1≠b
theorem Inv.fpOk {X:Cx} {pins:List (Addr × Obj)} {σ:St} {H H':Hp} {s:Shared} {b:Addr} (I:Inv X pins σ H s) (hb:s.heap.objs.size<=b) (hn:H' b=none):qP X pins H' b:=by
 refine ⟨hn,Nat.ne_of_gt (Nat.lt_of_lt_of_le I.lt hb),I.nofs hb,.inr (Nat.le_trans I.sz hb),fun x c e z=>?_,fun p hp z=>?_⟩
 ·obtain ⟨v,q⟩:=I.cell x c e
  exact absurd (Nat.lt_of_lt_of_le q.lt (by rw [z];exact hb)) (Nat.lt_irrefl _)
 ·exact absurd (Nat.lt_of_lt_of_le (Heap.lt_size (I.pin p hp).1) (by rw [z];exact hb)) (Nat.lt_irrefl _)
structure Turn (P:Program) (w:World) (K:PySem.W.Frag) (tg:Expr) (J:It) (fp:List Addr) (it:Addr) (tn:Nat->Heap->Prop):Prop where
 mem:it∈fp
 obj:∀ i h,tn i h->∀ b∈fp,∃ o,h.get? b=some o/\∀ v,o.data≠.cell v
 keep:∀ i h h',tn i h->(∀ b∈fp,∀ o,h.get? b=some o->h'.get? b=some o)->tn i h'
 item:∀ (X:Cx),X.prog=P->X.w=w->X.K=K->X.calm=true->∀ (i:Nat) (pins:List (Addr × Obj)) (s:Shared) (σ:St) (H:Hp) (E:Value->Shared->Prop),Inv X pins σ H s->(∀ b∈fp,qP X pins H b)->tn i s.heap->J.go i H ->
  wpAny (model P w) X.A (pyNext (.ref it)) (fun r s1=>∃ u,r=some u /\
   wpAny (model P w) X.A (letOwnedTupleGo tg (.ref it) u) (fun _ s2=>∃ x H',Inv X pins σ H' s2/\RelV x u/\J.yld i H x H'/\tn (i + 1) s2.heap/\∀ b∈fp,H' b=none) E s1) E s
 done:∀ (X:Cx),X.prog=P->X.w=w->X.K=K->X.calm=true->∀ (i:Nat) (pins:List (Addr × Obj)) (s:Shared) (σ:St) (H:Hp) (E:Value->Shared->Prop),Inv X pins σ H s->(∀ b∈fp,qP X pins H b)->tn i s.heap->J.stop i H ->
  wpAny (model P w) X.A (pyNext (.ref it)) (fun r s1=>r=none/\Inv X pins σ H s1) E s
 self:∀ (A:Around) (i:Nat) (s:Shared) (Q:Value->Shared->Prop) (E:Value->Shared->Prop),tn i s.heap->Q (.ref it) s->wpAny (model P w) A (pyIter (.ref it)) Q E s
abbrev TI:=St->Hp->(It->Hp->Prop)->Prop
def QT (X:Cx) (pins:List (Addr × Obj)) (σ:St) (tg:Expr) (R:It->Hp->Prop) (itv:Value) (s2:Shared):Prop :=
 ∃ (it:Addr) (fp:List Addr) (tn:Nat->Heap->Prop) (J:It) (H':Hp),itv=.ref it/\Inv X pins σ H' s2/\Turn X.prog X.w X.K tg J fp it tn/\tn 0 s2.heap/\(∀ b∈fp,qP X pins H' b)/\R J H'
def PI (X:Cx) (tg iter:Expr) (wi:TI):Prop :=
 ∀ (pins:List (Addr × Obj)) (s:Shared) (σ:St) (H:Hp) (R:It->Hp->Prop),Inv X pins σ H s->wi σ H R ->
  wpAny (model X.prog X.w) X.A (eval iter X.env) (fun v s1=>wpAny (model X.prog X.w) X.A (pyIter v) (QT X pins σ tg R) X.xe s1) X.xe s
theorem vX {M:Model} {A:Around} {E:Value->Shared->Prop} {s:Shared} {tg:Expr} {it:Addr} {u:Value} {o:Obj} {n:String} {vs:Array Value} {Q:Unit->Shared->Prop} (ho:s.heap.get? it=some o) (hc:o.cls=.type n) (hd:o.data=.fields vs)
    (hn:["enumerate","zip","dict_itemiterator","dict_reverseitemiterator","odict_iterator","itertools.zip_longest","itertools.pairwise"].contains n=false) (hQ:Q () s):wpAny M A (letOwnedTupleGo tg (.ref it) u) Q E s:=by
  unfold letOwnedTupleGo
  cases tg <;> first
    | exact wpAny_pure hQ
    | (cases u <;> first
        | exact wpAny_pure hQ
        | (refine wpAny_bind (wpAny_load ho ?_)
           rw [hc,hd]
           show wpAny M A (if (["enumerate","zip","dict_itemiterator","dict_reverseitemiterator","odict_iterator","itertools.zip_longest","itertools.pairwise"].contains n && vs[0]? == some (rawInt _))=true then _ else _) Q E s
           rw [if_neg (by intro h;rw [hn,Bool.false_and] at h;cases h)]
           exact wpAny_pure hQ))
def Ll (K:PySem.W.Frag) (a:Addr):It :=
 ⟨fun i H=>∃ xs x,dY K H a xs/\xs[i]?=some x,fun i H x H'=>H'=H/\∀ xs,dY K H a xs->xs[i]?=some x,fun i H=>∃ xs,dY K H a xs/\xs.length<=i⟩
def N3 (K:PySem.W.Frag) (a:Addr):It :=
 ⟨fun i H=>∃ xs x,eW K H a xs/\xs[i]?=some x,fun i H x H'=>H'=H/\∀ xs,eW K H a xs->xs[i]?=some x,fun i H=>∃ xs,eW K H a xs/\xs.length<=i⟩
def zS (lo:Int) (n:Nat):It:=⟨fun i _=>i < n,fun i H x H'=>H'=H/\x=.int (lo + i),fun i _=>n<=i⟩
theorem GX {P:Program} {w:World} {K:PySem.W.Frag} {tg:Expr} (a it:Addr):Turn P w K tg (Ll K a) [it] it (fun i h=>h.IsListIter it a i) where
 mem:=by simp
 obj:=fun i h st b hb=>by
  have e:b=it:=by simpa using hb
  subst e
  obtain ⟨o,e,c,d⟩:=st
  exact ⟨o,e,fun v z=>by rw [d] at z;cases z⟩
 keep:=fun i h h' st k=>st.at fun o e=>k it (by simp) o e
 item:=by
  intro X hP hw hK hc i pins s σ H E I hf st hg
  subst hP hw hK
  obtain ⟨xs,x,hq,hx⟩:=hg
  obtain ⟨its,rv,p,hz⟩:=I.list hq
  obtain ⟨u,hu,ru⟩:=rv.get hx
  obtain ⟨f0,f1,f2,f3,f4,f5⟩:=hf it (by simp)
  refine wpAny_pyNext_list_item st p.isList (x:=u) (by simpa using hu) fun h' st' sb=>?_
  have I1:Inv X pins σ H { s with heap:=h' }:=I.turned (t':=s.toks) (fun b o hb e=>(sb.2 b hb).trans e) f0 f1 f3 f4 f5
  obtain ⟨o,e,c,d⟩:=id st'
  exact ⟨u,rfl,vX (s:={ s with heap:=h' }) e c d (by decide) ⟨x,H,I1,ru,⟨rfl,fun ys hy=>by rw [I.list_inj hy hq];exact hx⟩,st',fun b hb=>(hf b hb).1⟩⟩
 done:=by
  intro X hP hw hK hc i pins s σ H E I hf st hg
  subst hP hw hK
  obtain ⟨xs,hq,hx⟩:=hg
  obtain ⟨its,rv,p,hz⟩:=I.list hq
  obtain ⟨f0,f1,f2,f3,f4,f5⟩:=hf it (by simp)
  have hl:=rv.length
  exact wpAny_pyNext_list_end (I.ok.hd hc) st p.isList (by simp;omega) fun h' eb=>⟨rfl,I.turned (t':=s.toks) (fun b o hb e=>eb b o hb e) f0 f1 f3 f4 f5⟩
 self:=fun _ _ _ _ _ st h=>wpAny_pyIter_listiter st h
theorem FZ {P:Program} {w:World} {K:PySem.W.Frag} {tg:Expr} (a it:Addr):Turn P w K tg (N3 K a) [it] it (fun i h=>h.IsTupleIter it a i) where
 mem:=by simp
 obj:=fun i h st b hb=>by
  have e:b=it:=by simpa using hb
  subst e
  obtain ⟨o,e,c,d⟩:=st
  exact ⟨o,e,fun v z=>by rw [d] at z;cases z⟩
 keep:=fun i h h' st k=>st.at fun o e=>k it (by simp) o e
 item:=by
  intro X hP hw hK hc i pins s σ H E I hf st hg
  subst hP hw hK
  obtain ⟨xs,x,hq,hx⟩:=hg
  obtain ⟨its,rv,p,hz⟩:=I.tuple hq
  obtain ⟨u,hu,ru⟩:=rv.get hx
  obtain ⟨f0,f1,f2,f3,f4,f5⟩:=hf it (by simp)
  refine wpAny_pyNext_tuple_item st (show s.heap.IsTuple a its.toArray from p) (x:=u) (by simpa using hu) fun h' st' sb=>?_
  have I1:Inv X pins σ H { s with heap:=h' }:=I.turned (t':=s.toks) (fun b o hb e=>(sb.2 b hb).trans e) f0 f1 f3 f4 f5
  obtain ⟨o,e,c,d⟩:=id st'
  exact ⟨u,rfl,vX (s:={ s with heap:=h' }) e c d (by decide) ⟨x,H,I1,ru,⟨rfl,fun ys hy=>by rw [I.tuple_inj hy hq];exact hx⟩,st',fun b hb=>(hf b hb).1⟩⟩
 done:=by
  intro X hP hw hK hc i pins s σ H E I hf st hg
  subst hP hw hK
  obtain ⟨xs,hq,hx⟩:=hg
  obtain ⟨its,rv,p,hz⟩:=I.tuple hq
  obtain ⟨f0,f1,f2,f3,f4,f5⟩:=hf it (by simp)
  have hl:=rv.length
  exact wpAny_pyNext_tuple_end (I.ok.hd hc) st (show s.heap.IsTuple a its.toArray from p) (by simp;omega) fun h' eb=>⟨rfl,I.turned (t':=s.toks) (fun b o hb e=>eb b o hb e) f0 f1 f3 f4 f5⟩
 self:=fun _ _ _ _ _ st h=>wpAny_pyIter_tupleiter st h
theorem EX {P:Program} {w:World} {K:PySem.W.Frag} {tg:Expr} (it:Addr) (lo:Int) (n:Nat):Turn P w K tg (zS lo n) [it] it (fun i h=>IsRangeIter h it (lo + (i:Nat) * 1) ((n:Int) - (i:Nat)) 1) where
 mem:=by simp
 obj:=fun i h st b hb=>by
  have e:b=it:=by simpa using hb
  subst e
  exact ⟨_,st,fun v z=>by
   have z':Data.fields _=Data.cell v:=z
   cases z'⟩
 keep:=fun i h h' st k=>k it (by simp) _ st
 item:=by
  intro X hP hw hK hc i pins s σ H E I hf st hg
  subst hP hw hK
  obtain ⟨f0,f1,f2,f3,f4,f5⟩:=hf it (by simp)
  have W:=Walks.range (prog:=X.prog) (w:=X.w) (I.ok.hd hc) it lo 1 n
  refine W.item i s _ _ hg st fun v h' tk hv st' kk=>?_
  obtain ⟨t,rfl⟩:=hv
  have I1:Inv X pins σ H { s with heap:=h',toks:=tk }:=I.turned (fun b o hb e=>kk b o (by simpa using hb) e) f0 f1 f3 f4 f5
  refine ⟨_,rfl,vX (s:={ s with heap:=h',toks:=tk }) (n:="range_iterator") st' rfl rfl (by decide) ⟨.int (lo + i),H,I1,⟨t,?_⟩,⟨rfl,rfl⟩,st',fun b hb=>(hf b hb).1⟩⟩
  rw [Int.mul_one]
 done:=by
  intro X hP hw hK hc i pins s σ H E I hf st hg
  subst hP hw hK
  obtain ⟨f0,f1,f2,f3,f4,f5⟩:=hf it (by simp)
  exact wpAny_pyNext_range_end (I.ok.hd hc) st (by have:n<=i:=hg;omega) fun h' eb=>⟨rfl,I.turned (t':=s.toks) (fun b o hb e=>eb b o hb e) f0 f1 f3 f4 f5⟩
 self:=fun _ _ _ _ _ st h=>wpAny_pyIter_rangeiter st h
section
variable {X:Cx} {tg:Expr}
theorem Ci {pins:List (Addr × Obj)} {σ:St} {H:Hp} {s:Shared} {R:It->Hp->Prop} {E:Value->Shared->Prop} {lo hi:Int} {t u v:Tok} {tk:Nat} (I:Inv X pins σ H s) (h1:-(2 ^ 62)<=lo) (h2:lo < 2 ^ 62) (h3:-(2 ^ 62)<=hi) (h4:hi < 2 ^ 62)
  (q:R (zS lo (hi - lo).toNat) H):wpAny (model X.prog X.w) X.A (pyIter (.ref s.heap.objs.size)) (QT X pins σ tg R) E { s with heap:=s.heap.push { cls:=.type "range",data:=.fields #[.int lo t,.int hi u,.int 1 v] },toks:=tk }:=by
 refine wpAny_pyIter_range (IsRange.new ..) (small_one h1 h2 h3 h4) ?_
 have I1:Inv X pins σ H { s with heap:=s.heap.push { cls:=.type "range",data:=.fields #[.int lo t,.int hi u,.int 1 v] },toks:=tk }:=I.kept fun b o e=>Heap.get?_push_of_some _ e
 refine ⟨(s.heap.push { cls:=.type "range",data:=.fields #[.int lo t,.int hi u,.int 1 v] }).objs.size,[(s.heap.push { cls:=.type "range",data:=.fields #[.int lo t,.int hi u,.int 1 v] }).objs.size],_,_,H,rfl,
  I1.kept (t':=tk) fun b o e=>Heap.get?_push_of_some _ e,EX _ lo (hi - lo).toNat,?_,fun b hb=>?_,q⟩
 ·have e1:lo + ((0:Nat):Int) * 1=lo:=by simp
  have e2:(((hi - lo).toNat:Nat):Int) - ((0:Nat):Int)=Builtin.Range.rangeSize lo hi 1:=by rw [rangeSize_one];split <;> omega
  show IsRangeIter _ _ (lo + ((0:Nat):Int) * 1) ((((hi - lo).toNat:Nat):Int) - ((0:Nat):Int)) 1
  rw [e1,e2]
  exact Heap.get?_push_size _ rfl
 ·have e:b=(s.heap.push { cls:=.type "range",data:=.fields #[.int lo t,.int hi u,.int 1 v] }).objs.size:=by simpa using hb
  subst e
  exact I1.fpOk (Nat.le_refl _) (I1.hok.fresh (Nat.le_refl _))
def LL (ta:TA):TI:=fun σ H R=>ta σ H fun vs H1=>∃ j:Int,vs=[.int j]/\-(2 ^ 62)<=j/\j < 2 ^ 62/\R (zS 0 j.toNat) H1
def Lp (ta:TA):TI:=fun σ H R=>ta σ H fun vs H1=>∃ i j:Int,vs=[.int i,.int j]/\(-(2 ^ 62)<=i/\i < 2 ^ 62/\-(2 ^ 62)<=j/\j < 2 ^ 62)/\R (zS i (j - i).toNat) H1
theorem Hn {a:Expr} {ta:TA} {p pos:Pos} (hg:Gl X "range") (hm:X.mg "range"=none) (ha:PA X [a] ta) (hs:starEach [a] X.env=[(false,eval a X.env)]:=by rfl):PI X tg (.Call (.Name "range" p) [a] [] pos) (LL ta):=by
 intro pins s σ H R I h
 refine Call_ (nK I hg hm boot_range (PyProof.Rows.callWith_type1 (bE (ha pos pins s σ H _ I h) fun us s1 ⟨vs,H1,I1,r1,q1⟩=>?_) hs rfl))
 obtain ⟨j,e,q1,q2,q⟩:=q1
 subst e
 cases r1 with
 | cons r rr =>
  cases rr
  obtain ⟨t,rfl⟩:=r
  exact call_range_1 (Ci I1 (by omega) (by omega) q1 q2 (by simpa using q))
theorem Ik {a b:Expr} {ta:TA} {p pos:Pos} (hg:Gl X "range") (hm:X.mg "range"=none) (ha:PA X [a,b] ta) (hs:starEach [a,b] X.env=[(false,eval a X.env),(false,eval b X.env)]:=by rfl) (hs2:starEach [b] X.env=[(false,eval b X.env)]:=by rfl) :
  PI X tg (.Call (.Name "range" p) [a,b] [] pos) (Lp ta):=by
 intro pins s σ H R I h
 refine Call_ (nK I hg hm boot_range (PyProof.Rows.callWith_type1 (bE (ha pos pins s σ H _ I h) fun us s1 ⟨vs,H1,I1,r1,q1⟩=>?_) (by rw [hs,hs2]) (by rw [hs2];rfl)))
 obtain ⟨i,j,e,⟨q1,q2,q3,q4⟩,q⟩:=q1
 subst e
 cases r1 with
 | cons r rr =>
  cases rr with
  | cons r' rr =>
   cases rr
   obtain ⟨t,rfl⟩:=r
   obtain ⟨t',rfl⟩:=r'
   exact call_range_2 (Ci I1 q1 q2 q3 q4 q)
def OQ (wi:TI) (g:TG) (tb:TS):TS:=fun D σ H=>wi σ H fun J H1=>∃ W:Nat->Nat->St->Hp->Prop,(∃ m,W 0 m σ H1)/\∀ i m σ H,W i m σ H ->
 (J.stop i H/\D.nx σ H)\/(J.go i H/\∃ N:St->Hp->Prop,(∀ σ' H',N σ' H'->∃ m',m' < m/\W (i + 1) m' σ' H')/\∀ x H',J.yld i H x H'->g x σ H' fun σ2 H2=>tb { D with nx:=N,ct:=N,bk:=D.nx } σ2 H2)
def rU (fp:List Addr) (h:Heap):List (Addr × Obj):=fp.filterMap fun b=>(h.get? b).map fun o=>(b,o)
theorem kG {fp:List Addr} {h:Heap} {b:Addr} {o:Obj} (hb:b∈fp) (e:h.get? b=some o):(b,o)∈rU fp h:=List.mem_filterMap.mpr ⟨b,hb,by rw [e];rfl⟩
theorem GZ {fp:List Addr} {h:Heap} {p:Addr × Obj} (hp:p∈rU fp h):p.1∈fp/\h.get? p.1=some p.2:=by
 obtain ⟨b,hb,e⟩:=List.mem_filterMap.mp hp
 cases q:h.get? b with
 | none=>rw [q] at e;cases e
 | some o =>
  rw [q] at e
  have e':(b,o)=p:=Option.some.inj e
  subst e'
  exact ⟨hb,q⟩
theorem Inv.pinned {pins:List (Addr × Obj)} {σ:St} {H:Hp} {s:Shared} {fp:List Addr} (I:Inv X pins σ H s) (hf:∀ b∈fp,qP X pins H b) (ho:∀ b∈fp,∃ o,s.heap.get? b=some o/\∀ v,o.data≠.cell v):Inv X (pins++rU fp s.heap) σ H s :=
 I.pins_of fun p hp=>(List.mem_append.mp hp).elim (fun z=>I.pin p (List.mem_append_right _ z)) fun z=>by
  obtain ⟨hb,e⟩:=GZ z
  obtain ⟨f0,f1,f2,_⟩:=hf p.1 hb
  obtain ⟨o,e',d⟩:=ho p.1 hb
  rw [e] at e';cases e'
  exact ⟨e,f0,f1,f2,d⟩
theorem Inv.unpinned {pins pl:List (Addr × Obj)} {σ:St} {H:Hp} {s:Shared} (I:Inv X (pins++pl) σ H s):Inv X pins σ H s:=I.pins_of fun p hp=>I.pin p (List.mem_append_right _ (List.mem_append_left _ hp))
theorem NZ {iter:Expr} {body:List Stmt} {wi:TI} {g:TG} {tb:TS} {pos:Pos} (hp:PassesOwn (model X.prog X.w) X.A X.env X.xe) (hc:X.calm=true) (hi:PI X tg iter wi) (hg:PG X tg g) (hb:qH X body tb)
  (hs:∀ x,foldedSetIterable iter X.env x=pure x:=by intro _;rfl):PS X (.For tg iter body [] pos) (OQ wi g tb):=by
 intro pins s σ H D I h
 refine wpAny_For (bE (hi pins s σ H _ I h) fun v s1 h1=>bE h1 fun itv s2 h2=>?_) hs
 obtain ⟨it,fp,tn,J,H2,e,I2,T,st2,f2,W,⟨m0,w0⟩,turn⟩:=h2
 subst e
 have stat:∀ {H':Hp},(∀ b∈fp,H' b=none)->∀ b∈fp,qP X pins H' b:=fun hn b hb=>⟨hn b hb,(f2 b hb).2⟩
 refine codeAny_forLoop_any (fun n s'=>∃ i σ' H',Inv X pins σ' H' s'/\tn i s'.heap/\(∀ b∈fp,H' b=none)/\W i n σ' H') ?_ m0 ⟨0,σ,H2,I2,st2,fun b hb=>(f2 b hb).1,w0⟩
 rintro n s3 ⟨i,σ3,H3,I3,st3,fr3,w3⟩
 rcases turn i n σ3 H3 w3 with ⟨stop,qn⟩ | ⟨go,N,hN,step⟩
 ·refine wpAny_passesOwn hp (bE (T.done X rfl rfl rfl hc i pins s3 σ3 H3 X.xe I3 (stat fr3) st3 stop) fun r s4 ⟨hr,I4⟩=>?_)
  subst hr
  exact wpAny_execs_nil ⟨σ3,H3,I4,qn⟩
 ·refine wpAny_passesOwn hp (bE (T.item X rfl rfl rfl hc i pins s3 σ3 H3 X.xe I3 (stat fr3) st3 go) fun r s4 ⟨u,hr,h4⟩=>?_)
  subst hr
  refine wpAny_passesOwn hp (bE h4 fun _ s5 ⟨x,H5,I5,r5,y5,st5,fr5⟩=>?_)
  have I5':=I5.pinned (stat fr5) (T.obj _ _ st5)
  refine wpAny_passesOwn hp (bE (hg _ s5 σ3 H5 x u _ I5' r5 (step x H5 y5)) fun _ s6 ⟨σ6,H6,I6,q6⟩=>?_)
  refine wpAny_passesOwn hp (bE (hb _ s6 σ6 H6 _ I6 q6) fun f s7 q7=>?_)
  have again:∀ {σ7:St} {H7:Hp},Inv X (pins++rU fp s5.heap) σ7 H7 s7->N σ7 H7->∃ m,m < n/\∃ i σ' H',Inv X pins σ' H' s7/\tn i s7.heap/\(∀ b∈fp,H' b=none)/\W i m σ' H':=fun {σ7 H7} I7 n7=>by
   obtain ⟨m',hm,w7⟩:=hN σ7 H7 n7
   refine ⟨m',hm,i + 1,σ7,H7,I7.unpinned,T.keep _ _ _ st5 fun b hb o e=>(I7.pin (b,o) (List.mem_append_right _ (List.mem_append_right _ (kG hb e)))).1,fun b hb=>?_,w7⟩
   obtain ⟨o,e,d⟩:=T.obj _ _ st5 b hb
   exact (I7.pin (b,o) (List.mem_append_right _ (List.mem_append_right _ (kG hb e)))).2.1
  cases f with
  | next=>obtain ⟨σ7,H7,I7,n7⟩:=q7;exact again I7 n7
  | cont=>obtain ⟨σ7,H7,I7,n7⟩:=q7;exact again I7 n7
  | brk=>obtain ⟨σ7,H7,I7,q7⟩:=q7;exact ⟨σ7,H7,I7.unpinned,q7⟩
  | ret v=>obtain ⟨x7,σ7,H7,I7,r7,q7⟩:=q7;exact ⟨x7,σ7,H7,I7.unpinned,r7,q7⟩
end
abbrev R2:=V->V->Hp->VK->Prop
def dD (X:Cx) (f:Value->Value->Sem Value) (r:R2):Prop :=
 ∀ (pins:List (Addr × Obj)) (s:Shared) (σ:St) (H:Hp) (x y:V) (v u:Value) (Q:VK),Inv X pins σ H s->RelV x v->RelV y u->r x y H Q ->
  wpAny (model X.prog X.w) X.A (f v u) (EP X pins σ Q) X.xe s
def lF (X:Cx) (f:Value) (r:List V->Hp->VK->Prop):Prop :=
 ∀ (pins:List (Addr × Obj)) (s:Shared) (σ:St) (H:Hp) (xs:List V) (us:List Value) (Q:VK),Inv X pins σ H s->Vals xs us->r xs H Q ->
  wpAny (model X.prog X.w) X.A (call f us) (EP X pins σ Q) X.xe s
def Q4 (X:Cx) (r:V->Hp->(Bool->Hp->Prop)->Prop):Prop :=
 ∀ (pins:List (Addr × Obj)) (s:Shared) (σ:St) (H:Hp) (x:V) (v:Value) (Q:Bool->Hp->Prop),Inv X pins σ H s->RelV x v->r x H Q ->
  wpAny (model X.prog X.w) X.A (truthy v) (TP X pins σ Q) X.xe s
def Ed (r:R2) (ta tb:TE):TE:=fun σ H Q=>ta σ H fun x H1=>tb σ H1 fun y H2=>r x y H2 Q
def rI (C:Int->Int->Prop) (g:Int->Int->V):R2:=fun x y H Q=>∃ i j,x=.int i/\y=.int j/\C i j/\Q (g i j) H
def uS (g:Int->Int->V):R2:=fun x y H Q=>∃ i j,x=.int i/\y=.int j/\Q (g i j) H
section
variable {X:Cx} {a b c:Expr} {ta tb tc:TE} {pos:Pos}
theorem KQ (ha:PE X a ta) (hb:PE X b tb) {pins:List (Addr × Obj)} {s:Shared} {σ:St} {H:Hp} {R:V->V->Hp->Prop} (I:Inv X pins σ H s)
  (h:ta σ H fun x H1=>tb σ H1 fun y H2=>R x y H2) {Q:Value->Shared->Prop} {f:Value->Value->Sem Value}
  (hf:∀ v u s2 x y H2,Inv X pins σ H2 s2->RelV x v->RelV y u->R x y H2->wpAny (model X.prog X.w) X.A (f v u) Q X.xe s2) :
  wpAny (model X.prog X.w) X.A (eval a X.env) (fun v s₁=>wpAny (model X.prog X.w) X.A (eval b X.env) (fun u s₂=>wpAny (model X.prog X.w) X.A (f v u) Q X.xe s₂) X.xe s₁) X.xe s:=by
 refine bE (ha pins s σ H _ I h) fun v s1 ⟨x,H1,I1,r1,q1⟩=>?_
 refine bE (hb pins s1 σ H1 _ I1 q1) fun u s2 ⟨y,H2,I2,r2,q2⟩=>?_
 exact hf v u s2 x y H2 I2 r1 r2 q2
theorem Qm {op:Operator} {r:R2} (ho:dD X (binaryOp op) r) (ha:PE X a ta) (hb:PE X b tb):PE X (.BinOp a op b pos) (Ed r ta tb):=by
 intro pins s σ H Q I h
 exact wpAny_BinOp (KQ ha hb I h fun v u s2 x y H2 I2 rx ry q=>ho pins s2 σ H2 x y v u Q I2 rx ry q)
theorem Li {f:Value->Value->Sem Value} {C:Int->Int->Prop} {g:Int->Int->Int}
  (rule:∀ (i j:Int) (t u:Tok) (s:Shared) (Q:Value->Shared->Prop) (E:Value->Shared->Prop),C i j->Q (.int (g i j) s.toks) { s with toks:=s.toks + 1 }->wpAny (model X.prog X.w) X.A (f (.int i t) (.int j u)) Q E s) :
  dD X f (rI C fun i j=>.int (g i j)):=by
 intro pins s σ H x y v u Q I rx ry h
 obtain ⟨i,j,rfl,rfl,hc,q⟩:=h
 obtain ⟨t,rfl⟩:=rx
 obtain ⟨t',rfl⟩:=ry
 exact rule i j t t' s _ _ hc ⟨.int (g i j),H,I.tok _,⟨_,rfl⟩,q⟩
theorem Of {f:Value->Value->Sem Value} {g:Int->Int->Int}
  (rule:∀ (i j:Int) (t u:Tok) (s:Shared) (Q:Value->Shared->Prop) (E:Value->Shared->Prop),Q (.int (g i j) s.toks) { s with toks:=s.toks + 1 }->wpAny (model X.prog X.w) X.A (f (.int i t) (.int j u)) Q E s) :
  dD X f (uS fun i j=>.int (g i j)):=by
 intro pins s σ H x y v u Q I rx ry h
 obtain ⟨i,j,rfl,rfl,q⟩:=h
 obtain ⟨t,rfl⟩:=rx
 obtain ⟨t',rfl⟩:=ry
 exact rule i j t t' s _ _ ⟨.int (g i j),H,I.tok _,⟨_,rfl⟩,q⟩
theorem EZ {f:Value->Value->Sem Value} {g:Int->Int->Bool}
  (rule:∀ (i j:Int) (t u:Tok) (s:Shared) (Q:Value->Shared->Prop) (E:Value->Shared->Prop),Q (.bool (g i j)) s->wpAny (model X.prog X.w) X.A (f (.int i t) (.int j u)) Q E s) :
  dD X f (uS fun i j=>.bl (g i j)):=by
 intro pins s σ H x y v u Q I rx ry h
 obtain ⟨i,j,rfl,rfl,q⟩:=h
 obtain ⟨t,rfl⟩:=rx
 obtain ⟨t',rfl⟩:=ry
 exact rule i j t t' s _ _ ⟨.bl (g i j),H,I,rfl,q⟩
def AN (i j:Int):Prop:=0<=j/\j<=1000000/\i.natAbs < 2 ^ 64
def Kd (i j:Int):Prop:=(-(2 ^ 64) < i/\i < 2 ^ 64)\/(-(2 ^ 64) < j/\j < 2 ^ 64)
theorem Kd.ok {i j:Int} (h:Kd i j):IntMulOk i j:=by
 rcases h with ⟨h1,h2⟩ | ⟨h1,h2⟩
 ·exact .of_left (intBits_le_64 h1 h2)
 ·exact .of_right (intBits_le_64 h1 h2)
theorem Qw (k:Nat):(0:Int)<=2 ^ k:=by
 rw [two_pow_cast]
 exact Int.natCast_nonneg _
theorem PJ:dD X (binaryOp .Add) (uS fun i j=>.int (i + j)):=Of fun _ _ _ _ _ _ _ q=>add_int q
theorem Pw:dD X (binaryOp .Sub) (uS fun i j=>.int (i - j)):=Of fun _ _ _ _ _ _ _ q=>sub_int q
theorem Px:dD X (binaryOp .Mod) (rI (fun _ j=>0 < j) fun i j=>.int (i % j)):=Li fun i j _ _ _ _ _ hc q=>by
 have h1:(0:Int) < j:=hc
 exact mod_int' (by omega) (by rw [Int.fmod_eq_emod_of_nonneg i (by omega)];exact q)
theorem Oj:dD X (binaryOp .Pow) (rI AN fun i j=>.int (i ^ j.toNat)):=Li fun _ _ _ _ _ _ _ hc q=>pow_int_small hc.1 hc.2.1 hc.2.2 q
end
def F6:V->V->Bool
 | .non,.non=>true | .non,.int _=>true | .int _,.non=>true | .non,.bl _=>true | .bl _,.non=>true | .non,.str _=>true | .str _,.non=>true
 | .int _,.int _=>true | .bl _,.bl _=>true | .str _,.str _=>true | .byt _,.byt _=>true
 | .int _,.str _=>true | .str _,.int _=>true | .bl _,.str _=>true | .str _,.bl _=>true
 | _,_=>false
def Ro:R2:=fun x y H Q=>F6 x y=true/\Q (.bl (decide (x=y))) H
def Rq:R2:=fun x y H Q=>F6 x y=true/\Q (.bl (!decide (x=y))) H
theorem Ew {i j:Int}:decide (V.int i=V.int j)=(i == j):=by
 rw [Bool.eq_iff_iff]
 simp
theorem Hh {i j:Bool}:decide (V.bl i=V.bl j)=(i == j):=by
 rw [Bool.eq_iff_iff]
 simp
theorem Eh {i j:Str}:decide (V.str i=V.str j)=(i == j):=by
 rw [Bool.eq_iff_iff]
 simp
theorem EN {i j:Array UInt8}:decide (V.byt i=V.byt j)=(i.toList == j.toList):=by
 rw [Bool.eq_iff_iff]
 cases i
 cases j
 simp
section
variable {X:Cx} {a b c:Expr} {ta tb tc:TE} {pos:Pos}
theorem cH {pins:List (Addr × Obj)} {σ:St} {H:Hp} {s:Shared} {Q:VK} {k k':Bool} (I:Inv X pins σ H s) (q:Q (.bl k) H) (e:k=k'):EP X pins σ Q (.bool k') s:=by
 subst e
 exact ⟨.bl k,H,I,rfl,q⟩
theorem Qa:dD X (compareOp .Eq) Ro:=by
 intro pins s σ H x y v u Q I rx ry h
 obtain ⟨hs,q⟩:=h
 cases x with
 | non =>
  cases rx
  cases y with
  | non=>cases ry;exact PySem.EqNone.eq_none_none (cH I q (by simp))
  | bl j=>cases ry;exact PySem.EqNone.eq_none_bool (cH I q (by simp))
  | int j=>obtain ⟨t',rfl⟩:=ry;exact PySem.EqNone.eq_none_int (cH I q (by simp))
  | str j=>obtain ⟨t',rfl⟩:=ry;exact PySem.EqNone.eq_none_str (cH I q (by simp))
  | _=>exact absurd (show false=true from hs) Bool.false_ne_true
 | bl i =>
  cases rx
  cases y with
  | non=>cases ry;exact PySem.EqNone.eq_bool_none (cH I q (by simp))
  | bl j=>cases ry;exact eq_bool (cH I q Hh)
  | str j=>obtain ⟨t',rfl⟩:=ry;exact PySem.EqMixed.eq_bool_str (cH I q (by simp))
  | _=>exact absurd (show false=true from hs) Bool.false_ne_true
 | int i =>
  obtain ⟨t,rfl⟩:=rx
  cases y with
  | non=>cases ry;exact PySem.EqNone.eq_int_none (cH I q (by simp))
  | int j=>obtain ⟨t',rfl⟩:=ry;exact eq_int (cH I q Ew)
  | str j=>obtain ⟨t',rfl⟩:=ry;exact PySem.EqMixed.eq_int_str (cH I q (by simp))
  | _=>exact absurd (show false=true from hs) Bool.false_ne_true
 | str i =>
  obtain ⟨t,rfl⟩:=rx
  cases y with
  | non=>cases ry;exact PySem.EqNone.eq_str_none (cH I q (by simp))
  | bl j=>cases ry;exact PySem.EqMixed.eq_str_bool (cH I q (by simp))
  | int j=>obtain ⟨t',rfl⟩:=ry;exact PySem.EqMixed.eq_str_int (cH I q (by simp))
  | str j=>obtain ⟨t',rfl⟩:=ry;exact eq_str (cH I q Eh)
  | _=>exact absurd (show false=true from hs) Bool.false_ne_true
 | byt i =>
  obtain ⟨t,rfl⟩:=rx
  cases y with
  | byt j=>obtain ⟨t',rfl⟩:=ry;exact PySem.W.eq_bytes (cH I q EN)
  | _=>exact absurd (show false=true from hs) Bool.false_ne_true
 | _=>cases y <;> exact absurd (show false=true from hs) Bool.false_ne_true
theorem Qn:dD X (compareOp .NotEq) Rq:=by
 intro pins s σ H x y v u Q I rx ry h
 obtain ⟨hs,q⟩:=h
 cases x with
 | non =>
  cases rx
  cases y with
  | non=>cases ry;exact PySem.EqNone.ne_none_none (cH I q (by simp))
  | bl j=>cases ry;exact PySem.EqNone.ne_none_bool (cH I q (by simp))
  | int j=>obtain ⟨t',rfl⟩:=ry;exact PySem.EqNone.ne_none_int (cH I q (by simp))
  | str j=>obtain ⟨t',rfl⟩:=ry;exact PySem.EqNone.ne_none_str (cH I q (by simp))
  | _=>exact absurd (show false=true from hs) Bool.false_ne_true
 | bl i =>
  cases rx
  cases y with
  | non=>cases ry;exact PySem.EqNone.ne_bool_none (cH I q (by simp))
  | bl j=>cases ry;exact ne_bool (cH I q (congrArg not Hh))
  | str j=>obtain ⟨t',rfl⟩:=ry;exact PySem.EqMixed.ne_bool_str (cH I q (by simp))
  | _=>exact absurd (show false=true from hs) Bool.false_ne_true
 | int i =>
  obtain ⟨t,rfl⟩:=rx
  cases y with
  | non=>cases ry;exact PySem.EqNone.ne_int_none (cH I q (by simp))
  | int j=>obtain ⟨t',rfl⟩:=ry;exact ne_int (cH I q (congrArg not Ew))
  | str j=>obtain ⟨t',rfl⟩:=ry;exact PySem.EqMixed.ne_int_str (cH I q (by simp))
  | _=>exact absurd (show false=true from hs) Bool.false_ne_true
 | str i =>
  obtain ⟨t,rfl⟩:=rx
  cases y with
  | non=>cases ry;exact PySem.EqNone.ne_str_none (cH I q (by simp))
  | bl j=>cases ry;exact PySem.EqMixed.ne_str_bool (cH I q (by simp))
  | int j=>obtain ⟨t',rfl⟩:=ry;exact PySem.EqMixed.ne_str_int (cH I q (by simp))
  | str j=>obtain ⟨t',rfl⟩:=ry;exact ne_str (cH I q (congrArg not Eh))
  | _=>exact absurd (show false=true from hs) Bool.false_ne_true
 | byt i =>
  obtain ⟨t,rfl⟩:=rx
  cases y with
  | byt j=>obtain ⟨t',rfl⟩:=ry;exact PySem.W.ne_bytes (cH I q (congrArg not EN))
  | _=>exact absurd (show false=true from hs) Bool.false_ne_true
 | _=>cases y <;> exact absurd (show false=true from hs) Bool.false_ne_true
theorem Qt:dD X (compareOp .Lt) (uS fun i j=>.bl (decide (i < j))):=EZ fun _ _ _ _ _ _ _ q=>lt_int q
theorem Qk:dD X (compareOp .LtE) (uS fun i j=>.bl (decide (i<=j))):=EZ fun _ _ _ _ _ _ _ q=>le_int q
theorem Qj:dD X (compareOp .Gt) (uS fun i j=>.bl (decide (j < i))):=EZ fun _ _ _ _ _ _ _ q=>gt_int q
theorem Qd:dD X (compareOp .GtE) (uS fun i j=>.bl (decide (j<=i))):=EZ fun _ _ _ _ _ _ _ q=>ge_int q
theorem OU:dD X (compareOp .Is) (fun x y H Q=>y=.non/\Q (.bl (decide (x=.non))) H):=by
 intro pins s σ H x y v u Q I rx ry h
 obtain ⟨rfl,q⟩:=h
 cases ry
 refine is_none_gen (cH I q ?_)
 cases x <;> first
  | (cases rx;rfl)
  | (obtain ⟨t,rfl⟩:=rx;rfl)
theorem Mr:dD X (compareOp .IsNot) (fun x y H Q=>y=.non/\Q (.bl (!decide (x=.non))) H):=by
 intro pins s σ H x y v u Q I rx ry h
 obtain ⟨rfl,q⟩:=h
 cases ry
 refine isnot_none_gen (cH I q ?_)
 cases x <;> first
  | (cases rx;rfl)
  | (obtain ⟨t,rfl⟩:=rx;rfl)
theorem dD.or {f:Value->Value->Sem Value} {r r':R2} (h:dD X f r) (h':dD X f r'):dD X f (fun x y H Q=>r x y H Q\/r' x y H Q):=by
 intro pins s σ H x y v u Q I rx ry q
 rcases q with q | q
 ·exact h pins s σ H x y v u Q I rx ry q
 ·exact h' pins s σ H x y v u Q I rx ry q
theorem G8 (b:Expr) {op:CmpOp} (h:op≠.In:=by decide) (h2:op≠.NotIn:=by decide):behindInMarks op b=false:=by
 have e1:(op == CmpOp.In)=false:=by cases op <;> first | rfl | exact absurd rfl h
 have e2:(op == CmpOp.NotIn)=false:=by cases op <;> first | rfl | exact absurd rfl h2
 cases b <;> simp [behindInMarks,e1,e2]
theorem Nq {op:CmpOp} {r:R2} (ho:dD X (compareOp op) r) (ha:PE X a ta) (hb:PE X b tb) (hm:behindInMarks op b=false):PE X (.Compare a [op] [b] pos) (Ed r ta tb):=by
 intro pins s σ H Q I h
 exact wpAny_Compare1 (KQ ha hb I h fun v u s2 x y H2 I2 rx ry q=>ho pins s2 σ H2 x y v u Q I2 rx ry q) hm
def FF (t:TE):TT:=fun σ H Q=>t σ H fun x H'=>∃ k,x=.bl k/\Q k H'
theorem Nb {op:CmpOp} {r:R2} (ho:dD X (compareOp op) r) (ha:PE X a ta) (hb:PE X b tb) (hm:behindInMarks op b=false):PT X (.Compare a [op] [b] pos) (FF (Ed r ta tb)):=by
 intro pins s σ H Q I h
 refine wpAny_isTrue_Compare1 (bE (ha pins s σ H _ I h) fun v s1 ⟨x,H1,I1,r1,q1⟩=>bE (hb pins s1 σ H1 _ I1 q1) fun u s2 ⟨y,H2,I2,r2,q2⟩ =>
  bE (ho pins s2 σ H2 x y v u _ I2 r1 r2 q2) fun c s3 ⟨z,H3,I3,r3,k,e,q3⟩=>?_) hm
 subst e
 cases r3
 exact wpAny_truthy_bool ⟨H3,I3,q3⟩
def C2 (r r':R2) (ta tb tc:TE):TE:=fun σ H Q=>ta σ H fun x H1=>tb σ H1 fun y H2=>r x y H2 fun z H3=>∃ k,z=.bl k /\
 (if k=true then tc σ H3 fun w' H4=>r' y w' H4 Q else Q (.bl false) H3)
theorem J0 {op op':CmpOp} {r r':R2} (ho:dD X (compareOp op) r) (ho':dD X (compareOp op') r') (ha:PE X a ta) (hb:PE X b tb) (hc:PE X c tc)
  (hm:lastMarks [op,op'] [b,c]=false:=by with_unfolding_all rfl):PE X (.Compare a [op,op'] [b,c] pos) (C2 r r' ta tb tc):=by
 intro pins s σ H Q I h
 refine Compare_chain (bE (ha pins s σ H _ I h) fun v s1 ⟨x,H1,I1,r1,q1⟩=>chain_link (bE (hb pins s1 σ H1 _ I1 q1) fun u s2 ⟨y,H2,I2,r2,q2⟩ =>
  bE (ho pins s2 σ H2 x y v u _ I2 r1 r2 q2) fun d s3 ⟨z,H3,I3,r3,k,e,q3⟩=>?_)) hm
 subst e
 cases r3
 refine wpAny_truthy_bool ?_
 cases k with
 | false=>exact ite_ff ⟨.bl false,H3,I3,rfl,q3⟩
 | true=>exact ite_tt (chain_last (bE (hc pins s3 σ H3 _ I3 q3) fun w' s4 ⟨z',H4,I4,r4,q4⟩=>ho' pins s4 σ H4 y z' u w' Q I4 r2 r4 q4))
theorem K6 {op op':CmpOp} {r r':R2} (ho:dD X (compareOp op) r) (ho':dD X (compareOp op') r') (ha:PE X a ta) (hb:PE X b tb) (hc:PE X c tc)
  (hm:lastMarks [op,op'] [b,c]=false:=by with_unfolding_all rfl):PT X (.Compare a [op,op'] [b,c] pos) (FF (C2 r r' ta tb tc)):=by
 intro pins s σ H Q I h
 refine isTrue_chain (bE (ha pins s σ H _ I h) fun v s1 ⟨x,H1,I1,r1,q1⟩=>test_link (bE (hb pins s1 σ H1 _ I1 q1) fun u s2 ⟨y,H2,I2,r2,q2⟩ =>
  bE (ho pins s2 σ H2 x y v u _ I2 r1 r2 q2) fun d s3 ⟨z,H3,I3,r3,k,e,q3⟩=>?_)) hm
 subst e
 cases r3
 refine wpAny_truthy_bool ?_
 cases k with
 | false =>
  obtain ⟨k',e',q'⟩:=q3
  cases e'
  exact ite_ff ⟨H3,I3,q'⟩
 | true =>
  refine ite_tt (test_last (bE (hc pins s3 σ H3 _ I3 q3) fun w' s4 ⟨z',H4,I4,r4,q4⟩=>bE (ho' pins s4 σ H4 y z' u w' _ I4 r2 r4 q4) fun d' s5 ⟨z2,H5,I5,r5,k2,e2,q5⟩=>?_))
  subst e2
  cases r5
  exact wpAny_truthy_bool ⟨H5,I5,q5⟩
def JO (K:PySem.W.Frag) (x:V) (H:Hp) (k:Bool):Prop :=
 match x with
 | .non=>k=false
 | .bl b=>k=b
 | .int i=>k=(i != 0)
 | .str y=>y.length<=sizeLine/\k=((y.length:Int) != 0)
 | .byt y=>y.size<=sizeLine/\k=((y.size:Int) != 0)
 | .ref p=>(∃ xs,dY K H p xs/\k=!xs.isEmpty)\/(∃ xs,eW K H p xs/\k=!xs.isEmpty)\/∃ kvs,H p=some (.dK kvs)/\k=!kvs.isEmpty
 | _=>False
theorem Fe {κ:Type} {kvs:List (κ × V)} {vs:List (κ × Value)} (r:KV kvs vs):(!vs.isEmpty)=!kvs.isEmpty:=by
 cases r <;> rfl
theorem zO {xs:List V} {its:List Value} (r:Vals xs its):(!its.toArray.isEmpty)=!xs.isEmpty:=by
 cases r <;> simp
theorem r0:(sizeLine:Nat) < 2 ^ 63:=by rw [sizeLine_eq];decide
theorem N5:Q4 X (fun x H Q=>∃ k,JO X.K x H k/\Q k H):=by
 intro pins s σ H x v Q I rx h
 obtain ⟨k,e,q⟩:=h
 have hl:=r0
 have hs:sizeLine=16777216:=sizeLine_eq
 cases x with
 | non =>
  cases rx
  have e':k=false:=e
  subst e'
  exact truthy_none ⟨H,I,q⟩
 | bl b =>
  cases rx
  have e':k=b:=e
  subst e'
  exact wpAny_truthy_bool ⟨H,I,q⟩
 | int i =>
  obtain ⟨t,rfl⟩:=rx
  have e':k=(i != 0):=e
  subst e'
  exact PySem.P.truthy_int ⟨H,I,q⟩
 | str y =>
  obtain ⟨t,rfl⟩:=rx
  obtain ⟨hy,e'⟩:y.length<=sizeLine/\k=((y.length:Int) != 0):=e
  subst e'
  exact PySem.P.truthy_str (by omega) ⟨H,I.tok _,q⟩
 | byt y =>
  obtain ⟨t,rfl⟩:=rx
  obtain ⟨hy,e'⟩:y.size<=sizeLine/\k=((y.size:Int) != 0):=e
  subst e'
  exact PySem.W.truthy_bytes (by omega) ⟨H,I.tok _,q⟩
 | ref p =>
  cases rx
  have e':(∃ xs,dY X.K H p xs/\k=!xs.isEmpty)\/(∃ xs,eW X.K H p xs/\k=!xs.isEmpty)\/∃ kvs,H p=some (.dK kvs)/\k=!kvs.isEmpty:=e
  rcases e' with ⟨xs,hx,e'⟩ | ⟨xs,hx,e'⟩ | ⟨kvs,hx,e'⟩
  ·subst e'
   obtain ⟨its,r,pl,hz⟩:=I.list hx
   have hlen:=r.length
   exact wpAny_truthy_list pl.isList (by simp only [List.size_toArray];omega) ⟨H,I.tok _,by rw [zO r];exact q⟩
  ·subst e'
   obtain ⟨its,r,pl,hz⟩:=I.tuple hx
   have hlen:=r.length
   exact truthy_tuple pl (by simp only [List.size_toArray];omega) ⟨H,I.tok _,by rw [zO r];exact q⟩
  ·subst e'
   obtain ⟨hz,hS,vs,r,m⟩:kvs.length<=sizeLine/\(p == sysModules)=false/\∃ vs,KV kvs vs/\s.heap.DictOf (cF X.prog X.w) p vs:=I.hok p _ hx
   have hlen:kvs.length=vs.length:=Paired.length r
   exact wpAny_truthy_dict hS m (by omega) ⟨H,I.tok _,by rw [Fe r];exact q⟩
 | _=>exact (show False from e).elim
theorem Kv (ha:PE X a ta) (he:∀ whole,isTrue a X.env whole=(do let v <- whole;standAt a.pos;holding [v] (truthy v))) :
  PT X a (fun σ H Q=>ta σ H fun x H'=>∃ k,JO X.K x H' k/\Q k H'):=by
 intro pins s σ H Q I h
 exact isTrue_plain (bE (ha pins s σ H _ I h) fun v s1 ⟨x,H1,I1,r1,q1⟩=>N5 pins s1 σ H1 x v Q I1 r1 q1) (he _)
theorem Fm:dD X (binaryOp .Add) (fun x y H Q=>∃ i j,x=.str i/\y=.str j/\i.length + j.length<=sizeLine/\Q (.str (i++j)) H):=by
 intro pins s σ H x y v u Q I rx ry h
 obtain ⟨i,j,rfl,rfl,hz,q⟩:=h
 obtain ⟨t,rfl⟩:=rx
 obtain ⟨t',rfl⟩:=ry
 exact add_str (fun t' tk=>⟨.str (i++j),H,I.tok _,⟨_,rfl⟩,q⟩) hz
theorem vals1 {x:V} {us:List Value} (r:Vals [x] us):∃ u,us=[u]/\RelV x u:=by
 cases r with
 | cons r1 r2=>cases r2;exact ⟨_,rfl,r1⟩
theorem vals2 {x y:V} {us:List Value} (r:Vals [x,y] us):∃ u w',us=[u,w']/\RelV x u/\RelV y w':=by
 cases r with
 | cons r1 r2 =>
  cases r2 with
  | cons r3 r4=>cases r4;exact ⟨_,_,rfl,r1,r3⟩
theorem Io:lF X (.type "int") (fun xs H Q=>(∃ i,xs=[.int i]/\Q (.int i) H)\/∃ k,xs=[.bl k]/\Q (.int (if k then 1 else 0)) H):=by
 intro pins s σ H xs us Q I r h
 rcases h with ⟨i,rfl,q⟩ | ⟨k,rfl,q⟩
 ·obtain ⟨u,rfl,t,rfl⟩:=vals1 r
  exact call_int_int ⟨.int i,H,I,⟨_,rfl⟩,q⟩
 ·obtain ⟨u,rfl,r1⟩:=vals1 r
  cases r1
  exact call_int_bool ⟨.int (if k then 1 else 0),H,I.tok _,⟨_,rfl⟩,q⟩
def Ot (K:PySem.W.Frag) (x:V) (H:Hp) (n:Nat):Prop :=
 match x with
 | .str y=>y.length<=sizeLine/\n=y.length
 | .byt y=>y.size<=sizeLine/\n=y.size
 | .ref p=>(∃ xs,dY K H p xs/\n=xs.length)\/∃ xs,eW K H p xs/\n=xs.length
 | _=>False
theorem JN:lF X (.builtin "len") (fun xs H Q=>∃ x n,xs=[x]/\Ot X.K x H n/\Q (.int n) H):=by
 intro pins s σ H xs us Q I r h
 obtain ⟨x,n,rfl,e,q⟩:=h
 obtain ⟨u,rfl,rx⟩:=vals1 r
 have hl:=r0
 have hs:sizeLine=16777216:=sizeLine_eq
 cases x with
 | str y =>
  obtain ⟨t,rfl⟩:=rx
  obtain ⟨hy,e'⟩:y.length<=sizeLine/\n=y.length:=e
  subst e'
  exact len_str (by omega) ⟨.int _,H,I.tok _,⟨_,rfl⟩,q⟩
 | byt y =>
  obtain ⟨t,rfl⟩:=rx
  obtain ⟨hy,e'⟩:y.size<=sizeLine/\n=y.size:=e
  subst e'
  exact PySem.W.len_bytes (by omega) ⟨.int _,H,I.tok _,⟨_,rfl⟩,q⟩
 | ref p =>
  cases rx
  have e':(∃ xs,dY X.K H p xs/\n=xs.length)\/∃ xs,eW X.K H p xs/\n=xs.length:=e
  rcases e' with ⟨xs,hx,e'⟩ | ⟨xs,hx,e'⟩
  ·subst e'
   obtain ⟨its,r',pl,hz⟩:=I.list hx
   have hlen:=r'.length
   exact Calls.call_len_list pl.isList (by simp only [List.size_toArray];omega) ⟨.int xs.length,H,I.tok _,⟨_,by simp only [List.size_toArray];rw [hlen]⟩,q⟩
  ·subst e'
   obtain ⟨its,r',pl,hz⟩:=I.tuple hx
   have hlen:=r'.length
   exact len_tuple pl (by simp only [List.size_toArray];omega) ⟨.int xs.length,H,I.tok _,⟨_,by simp only [List.size_toArray];rw [hlen]⟩,q⟩
 | _=>exact (show False from e).elim
end
structure J3 (h:Heap) (x dx C:Addr) (mA:Str->Option Value):Prop where
 obj:h.get? x=some (PySem.W.instObj C dx)
 ns:h.Ns1 dx mA
 ne:dx≠x
theorem HL {h:Heap} {dx:Addr} {mA:Str->Option Value} (n:h.Ns1 dx mA):∃ od,h.get? dx=some od/\∀ name,PySem.W.lookIn name od=some (mA name):=by
 obtain ⟨o,es,ep,ho,hd,hk,_,hm⟩:=n
 refine ⟨o,ho,fun name=>?_⟩
 have e:=hm name
 unfold nsFind findBy at e
 rw [<- Array.find?_toList] at e
 unfold PySem.W.lookIn
 rw [hd]
 dsimp only
 split
 ·rename_i y q
  rw [q] at e
  exact congrArg some e
 ·rename_i q
  rw [q] at e
  have a:es.toList.any (·.refKey)=false:=by
   rw [List.any_eq_false]
   intro y hy
   obtain ⟨z,t,hkey⟩:=hk y (Array.mem_toList_iff.mp hy)
   simp [DictEntry.refKey,hkey]
  have a':¬ es.toList.any (·.refKey)=true:=by rw [a];exact Bool.false_ne_true
  rw [if_neg a']
  exact congrArg some e
theorem J3.look {h:Heap} {x dx C:Addr} {mA:Str->Option Value} (I:J3 h x dx C mA):∃ od,PySem.W.InstAt h x (PySem.W.instObj C dx) C (some od)/\∀ name,PySem.W.lookIn name od=some (mA name) :=
 let ⟨od,ho,hl⟩:=HL I.ns
 ⟨od,⟨I.obj,rfl,rfl,ho⟩,hl⟩
section
variable {prog:Program} {w:World} {A:Around} {E:Value->Shared->Prop} {s:Shared} {K:PySem.W.Frag} {x dx C f:Addr} {mA:Str->Option Value} {name:Str} {v:Value}
end
def E4 (f:Str) (v:V):List (Str × V)->List (Str × V)
 | []=>[(f,v)]
 | (g,x) :: r=>if g=f then (g,v) :: r else (g,x) :: E4 f v r
theorem DC (f g:Str) (v:V):∀ fs:List (Str × V),(E4 f v fs).lookup g=if g=f then some v else fs.lookup g
 | []=>by
  show List.lookup g [(f,v)]=_
  by_cases h:g=f
  ·have hb:(g == f)=true:=beq_iff_eq.mpr h
   simp only [List.lookup,hb,if_pos h]
  ·have hb:(g == f)=false:=beq_eq_false_iff_ne.mpr h
   simp only [List.lookup,hb,if_neg h]
 | (k,x) :: r=>by
  have ih:=DC f g v r
  rw [show E4 f v ((k,x) :: r)=(if k=f then (k,v) :: r else (k,x) :: E4 f v r) from rfl]
  by_cases hk:k=f
  ·rw [if_pos hk]
   by_cases h:g=k
   ·have hb:(g == k)=true:=beq_iff_eq.mpr h
    simp only [List.lookup,hb,if_pos (h.trans hk)]
   ·have hb:(g == k)=false:=beq_eq_false_iff_ne.mpr h
    simp only [List.lookup,hb,if_neg (fun e:g=f=>h (e.trans hk.symm))]
  ·rw [if_neg hk]
   by_cases h:g=k
   ·have hb:(g == k)=true:=beq_iff_eq.mpr h
    simp only [List.lookup,hb,if_neg (fun e:g=f=>hk (h.symm.trans e))]
   ·have hb:(g == k)=false:=beq_eq_false_iff_ne.mpr h
    simp only [List.lookup,hb]
    exact ih
theorem l7.some_of {v:V} {o:Option Value} (r:l7 (some v) o):∃ u,o=some u/\RelV v u:=by
 cases o with
 | none=>exact (show False from r).elim
 | some u=>exact ⟨u,rfl,r⟩
section
variable {P:Program} {w:World} {H H':Hp} {h h':Heap} {a C dx:Addr} {fs fs':List (Str × V)}
theorem Nz (hok:gE P w H h) (e:H a=some (.ins C dx fs)):∃ mA,J3 h a dx C mA/\(∀ f,l7 (fs.lookup f) (mA f))/\PySem.Within mA (fs.map (·.1))/\fs.length<=1000/\H dx=some (.own a):=by
 obtain ⟨d,z,ne,ob,mA,n,r,q⟩:=(show cK P w H h a (.ins C dx fs) from hok a _ e)
 exact ⟨mA,⟨ob,n,ne⟩,r,q,z,d⟩
end
structure A3 (K:PySem.W.Frag) (C:Addr):Prop where
 pg:PySem.W.plainGet K C Str.empty=true
 hd:PySem.W.hasDictIn K C=true
 po:PySem.W.plainOver K C=true
 sa:PySem.W.findIn K (.ref C) "__setattr__"=some (some (.builtin "object.__setattr__"))
theorem A3.get {K:PySem.W.Frag} {C:Addr} (c:A3 K C) (f:Str):PySem.W.plainGet K C f=true:=c.pg
section
variable {X:Cx} {pins:List (Addr × Obj)} {σ:St} {H:Hp} {s:Shared} {a C dx:Addr} {fs:List (Str × V)} {f:Str} {v:V} {A:Around} {E:Value->Shared->Prop}
end
section
variable {X:Cx} {o e value:Expr} {f:Str} {pos pos' tpos:Pos} {ta tv:TE}
end
section
variable {X:Cx} {pins:List (Addr × Obj)} {σ:St} {H:Hp} {s:Shared} {A:Around} {E:Value->Shared->Prop} {Q:Value->Shared->Prop} {c:Value} {b:Bool}
inductive mC (K:PySem.W.Frag) (H:Hp):V->Value->Prop where
 | non:mC K H .non (.type "NoneType")
 | bl (x:Bool):mC K H (.bl x) (.type "bool")
 | int (i:Int):mC K H (.int i) (.type "int")
 | str (x:Str):mC K H (.str x) (.type "str")
 | flt (x:UInt64):mC K H (.flt x) (.type "float")
 | lst {a:Addr} {xs:List V} (e:H a=some (.lst xs)):mC K H (.ref a) (.type "list")
 | frz {a:Addr} {o:Obj} {xs:List V} (e:H a=some (.frz o (.lst xs))):mC K H (.ref a) (.type "list")
 | tup {a:Addr} {xs:List V} (e:H a=some (.tup xs)):mC K H (.ref a) (.type "tuple")
 | dK {a:Addr} {kvs:List (Key × V)} (e:H a=some (.dK kvs)):mC K H (.ref a) (.type "dict")
 | dT {a:Addr} {kvs:List (List Key × V)} (e:H a=some (.dT kvs)):mC K H (.ref a) (.type "dict")
 | ins {a C dx:Addr} {fs:List (Str × V)} (e:H a=some (.ins C dx fs)) (cl:A3 K C) (ha:PySem.W.findIn K (.ref C) "__class__"=some (some (.builtin "object.__class__")))
   (hn:PySem.W.specialIn K (.builtin "object.__class__") "__get__"=some (some (.builtin "getset_descriptor.__get__"))) (htk:PySem.W.takesIn K (.builtin "object.__class__")=some true)
   (hm:PySem.W.mroIn K C (.type "object")=some true):mC K H (.ref a) (.ref C)
theorem GG {x:V} {u t:Value} (I:Inv X pins σ H s) (rx:RelV x u) (ty:mC X.K H x t) (e:PySem.W.kitOne X.K t c=some b) (h:∀ tk,Q (.bool b) { s with toks:=tk }) :
  wpAny (model X.prog X.w) A (call (.builtin "isinstance") [u,c]) Q E s:=by
 cases ty with
 | non=>cases (show u=Value.none from rx);exact PySem.W.kia_one PySem.W.kitx_none I.kIn True.intro e (fun z=>nomatch z) h
 | bl y=>cases (show u=Value.bool y from rx);exact PySem.W.kia_one PySem.W.kitx_bool I.kIn True.intro e (fun z=>nomatch z) h
 | int i=>obtain ⟨t,q⟩:=(show ∃ t,u=Value.int i t from rx);cases q;exact PySem.W.kia_one PySem.W.kitx_int I.kIn True.intro e (fun z=>nomatch z) h
 | str y=>obtain ⟨t,q⟩:=(show ∃ t,u=Value.str y t from rx);cases q;exact PySem.W.kia_one PySem.W.kitx_str I.kIn True.intro e (fun z=>nomatch z) h
 | flt y=>obtain ⟨t,q⟩:=(show ∃ t,u=Value.float y t from rx);cases q;exact PySem.W.kia_one PySem.W.kitx_float I.kIn True.intro e (fun z=>nomatch z) h
 | @lst a xs ea =>
  cases (show u=Value.ref a from rx)
  obtain ⟨_,_,n,_,h1⟩:=(show cK X.prog X.w H s.heap a (.lst xs) from I.hok a _ ea)
  exact PySem.W.kia_one PySem.W.kitx_list I.kIn ⟨_,h1,rfl⟩ e (fun z=>nomatch z) h
 | @frz a ob xs ea =>
  cases (show u=Value.ref a from rx)
  obtain ⟨_,_,_,n,_,h1⟩:=(show cK X.prog X.w H s.heap a (.frz ob (.lst xs)) from I.hok a _ ea)
  exact PySem.W.kia_one PySem.W.kitx_list I.kIn ⟨_,h1,rfl⟩ e (fun z=>nomatch z) h
 | @tup a xs ea =>
  cases (show u=Value.ref a from rx)
  obtain ⟨_,_,_,p⟩:=(show cK X.prog X.w H s.heap a (.tup xs) from I.hok a _ ea)
  obtain ⟨o,h1,h2,_⟩:=p
  exact PySem.W.kia_one PySem.W.kitx_tuple I.kIn ⟨o,h1,h2⟩ e (fun z=>nomatch z) h
 | @dK a kvs ea =>
  cases (show u=Value.ref a from rx)
  obtain ⟨_,_,vs,_,p⟩:=(show cK X.prog X.w H s.heap a (.dK kvs) from I.hok a _ ea)
  obtain ⟨o,es,ep,h1,h2,_⟩:=p
  exact PySem.W.kia_one PySem.W.kitx_dict I.kIn ⟨o,h1,h2.1⟩ e (fun z=>nomatch z) h
 | @dT a kvs ea =>
  cases (show u=Value.ref a from rx)
  obtain ⟨_,_,xs,_,o,es,ep,h1,h2,_⟩:=(show cK X.prog X.w H s.heap a (.dT kvs) from I.hok a _ ea)
  exact PySem.W.kia_one PySem.W.kitx_dict I.kIn ⟨o,h1,h2.1⟩ e (fun z=>nomatch z) h
 | @ins a C dx fs ea cl ha hn htk hm =>
  cases (show u=Value.ref a from rx)
  obtain ⟨mA,O,_⟩:=Nz I.hok ea
  obtain ⟨od,J,_⟩:=O.look
  exact PySem.W.kia_one (PySem.W.kitx_own (cl.get _) cl.hd ha hn htk hm) I.kIn J e (fun z=>nomatch z) h
end
structure eN (k:Nat) (A:Around):Prop where
 hd:A.handled=none
 dp:A.depth + 3 * k + 5 < recursionLimit
 un:A.units + 16 * k + 200 < cLine
theorem eN.mono {j k:Nat} {A:Around} (r:eN k A) (h:j<=k):eN j A:=⟨r.hd,by have:=r.dp;omega,by have:=r.un;omega⟩
theorem eN.deeper {k:Nat} {A:Around} (r:eN (k + 1) A) (env:Env):eN k (A.deeper env) :=
 ⟨r.hd,by have:=r.dp;show A.depth + 1 + 3 * k + 5 < _;omega,by have:=r.un;show A.units + 3 + 16 * k + 200 < _;omega⟩
theorem Qx {A:Around} {C:Addr} {us:List Value} {kw:List (Str × Value)}:(A.under (.builtin "type.__call__" ⟨.ref C :: us,kw⟩)).depth=A.depth + 1:=by
 first | rfl | simp [Around.under,Code.weight,Code.isCreation,Code.isGuard,Code.isCaller,Code.frames,Code.isFrame,guardIds]
theorem Qq {A:Around} {C:Addr} {us:List Value} {kw:List (Str × Value)}:(A.under (.builtin "type.__call__" ⟨.ref C :: us,kw⟩)).units=A.units + 1:=by
 first | rfl | simp [Around.under,Code.cUnits,Code.frames,Code.isFrame]
theorem eN.depth {k:Nat} {A:Around} (r:eN k A):A.depth < recursionLimit:=by have:=r.dp;omega
theorem eN.units {k:Nat} {A:Around} (r:eN k A):A.units + 64 < cLine:=by have:=r.un;omega
theorem eN.units0 {k:Nat} {A:Around} (r:eN k A):A.units < cLine:=by have:=r.un;omega
def Oa:TA:=fun _ H Q=>Q [] H
def Lx (ta:TE) (tr:TA):TA:=fun σ H Q=>ta σ H fun x H1=>tr σ H1 fun xs H2=>Q (x :: xs) H2
section
variable {X:Cx} {e:Expr} {es:List Expr} {te:TE} {t:TA} {pos:Pos}
theorem PX:PA X [] Oa:=fun _ _ _ _ H Q I h=>Calls.spliced_nil ⟨[],H,I,.nil,h⟩
theorem Nw (ha:PE X e te) (hr:PA X es t) (hs:starEach (e :: es) X.env=(false,eval e X.env) :: starEach es X.env:=by rfl):PA X (e :: es) (Lx te t):=by
 intro pos pins s σ H Q I h
 rw [hs]
 show wpAny _ _ (spliced ((false,eval e X.env) :: backTo pos (starEach es X.env))) _ _ s
 refine Calls.spliced_cons (bE (ha pins s σ H _ I h) fun u s1 ⟨x,H1,I1,r1,q1⟩=>?_)
 exact bE (hr pos pins s1 σ H1 _ I1 q1) fun us s2 ⟨xs,H2,I2,r2,q2⟩=>⟨x :: xs,H2,I2,.cons r1 r2,q2⟩
def NP (t:TA):TE:=fun σ H Q=>t σ H fun xs H1=>xs.length<=sizeLine/\∀ p,H1 p=none->Q (.ref p) (upd H1 p (.tup xs))
def Pd (t:TA):TE:=fun σ H Q=>t σ H fun xs H1=>xs.length<=sizeLine/\∀ p,H1 p=none->Q (.ref p) (upd H1 p (.lst xs))
theorem P0 {x1} (h:PA X es t):PE X (.Tuple es x1 pos) (NP t):=by
 intro pins s σ H Q I hq
 refine wpAny_Tuple_spliced (bE (h pos pins s σ H _ I hq) fun us s1 ⟨xs,H1,I1,r,z,q⟩=>⟨by rw [<- r.length];exact z,?_⟩)
 have hf:H1 s1.heap.objs.size=none:=I1.hok.fresh (Nat.le_refl _)
 refine ⟨.ref s1.heap.objs.size,upd H1 s1.heap.objs.size (.tup xs),I1.laid (t':=s1.toks) (fun b u e=>Heap.get?_push_of_some _ e) (Nat.le_refl _) ?_,rfl,q _ hf⟩
 exact ⟨z,us,r,⟨_,Heap.get?_push_size _ rfl,rfl,rfl,_,rfl⟩⟩
theorem Pu (h:PA X es t):PE X (.List es pos) (Pd t):=by
 intro pins s σ H Q I hq
 refine wpAny_List_spliced (bE (h pos pins s σ H _ I hq) fun us s1 ⟨xs,H1,I1,r,z,q⟩=>⟨by rw [<- r.length];exact z,?_⟩)
 have hf:H1 s1.heap.objs.size=none:=I1.hok.fresh (Nat.le_refl _)
 refine ⟨.ref s1.heap.objs.size,upd H1 s1.heap.objs.size (.lst xs),I1.laid (t':=s1.toks) (fun b u e=>Heap.get?_push_of_some _ e) (Nat.le_refl _) ?_,rfl,q _ hf⟩
 exact ⟨z,us,0,r,Heap.get?_push_size _ rfl⟩
end
abbrev Sp:=List V->Hp->VK->XK->Prop
abbrev uT:=List Env->Hp->Shared->XK->Value->Shared->Prop
structure FL (P:Program) (w:World) (K:PySem.W.Frag) (mg:Str->Option Value) (base:Heap) (A:Around) (outer:List Env) (s:Shared) (H:Hp):Prop where
 frames:A.frames=some outer
 mod:Mod K mg base
 bs:∀ b o,base.get? b=some o->s.heap.get? b=some o/\H b=none
 bsz:base.objs.size<=s.heap.objs.size
 funs:s.heap.FunFrames base outer
 frf:∀ b∈r9 outer,H b=none
 hok:gE P w H s.heap
 bare:AllBare s.gens
def CE (outer:List Env) (P:Program) (w:World) (H:Hp) (s:Shared) (Q:VK) (u:Value) (s':Shared):Prop :=
 ∃ v H',s'.os=s.os/\AllBare s'.gens/\Un (r9 outer) [] H H' s.heap s'.heap/\gE P w H' s'.heap/\RelV v u/\Q v H'
def CR (CX:uT) (outer:List Env) (P:Program) (w:World) (H:Hp) (s:Shared) (Q:VK) (E:XK) (r:Result) (s':Shared):Prop :=
 match r with
 | .ok (.ret u)=>CE outer P w H s Q u s'
 | .ok _=>False
 | .error e=>CX outer H s E e s'
structure jN (P:Program) (w:World) (K:PySem.W.Frag) (mg:Str->Option Value) (base:Heap) (CX:uT) (k:Nat) (f:Addr) (fd:FuncData) (ps:List Str) (sp:Sp):Prop where
 len:∀ vs H Q E,sp vs H Q E->vs.length=ps.length
 run:∀ (A:Around) (outer:List Env) (s:Shared) (H:Hp) (args:Args) (us:List Value) (vs:List V) (Q:VK) (E:XK),eN k A->FL P w K mg base A outer s H->BindsTo s fd args (ps.zip us)->Vals vs us->sp vs H Q E ->
  codeAny (model P w) A (.call (.ref f) args) (CR CX outer P w H s Q E) s
theorem jN.imp {P:Program} {w:World} {K:PySem.W.Frag} {mg:Str->Option Value} {base:Heap} {CX:uT} {k:Nat} {f:Addr} {fd:FuncData} {ps:List Str} {sp sp':Sp} (F:jN P w K mg base CX k f fd ps sp)
  (h:∀ vs H Q E,sp' vs H Q E->sp vs H Q E):jN P w K mg base CX k f fd ps sp' :=
 ⟨fun vs H Q E q=>F.len vs H Q E (h _ _ _ _ q),fun A outer s H args us vs Q E hr he hb hv hs=>F.run A outer s H args us vs Q E hr he hb hv (h _ _ _ _ hs)⟩
section
variable {X:Cx} {pins:List (Addr × Obj)} {σ:St} {H:Hp} {s s':Shared}
theorem Inv.env0 (I:Inv X pins σ H s):FL X.prog X.w X.K X.mg X.base X.A X.stack s H :=
 ⟨I.ok.frames,I.ok.mod,I.bs,Nat.le_trans I.ok.bsz I.sz,I.stack,I.stkFree,I.hok,I.bare⟩
theorem Inv.after {Q:VK} {u:Value} (I:Inv X pins σ H s) (h:CE X.stack X.prog X.w H s Q u s'):EP X pins σ Q u s':=by
 obtain ⟨v,H',os,bare,un,hok,r,q⟩:=h
 obtain ⟨hh,g,d,t,os'⟩:=s'
 obtain rfl:os'=s.os:=os
 exact ⟨v,H',I.call (h':=hh) (g':=g) (d':=d) (t':=t) (ch:=[]) un hok bare (fun b z=>absurd z (by simp)),r,q⟩
end
def E2 (sp:Sp) (dvs:List V) (E:XK) (t:TA):TE:=fun σ H Q=>t σ H fun vs H1=>sp (vs++dvs) H1 Q E
def Binds (K:PySem.W.Frag) (fd:FuncData) (ps:List Str) (ds:List Value):Prop :=
 ∀ (s:Shared) (us:List Value),K.In s.heap->(us++ds).length=ps.length->BindsTo s fd ⟨us,[]⟩ (ps.zip (us++ds))
theorem Binds.all {K:PySem.W.Frag} {fd:FuncData} {ps:List Str} (h:∀ us:List Value,us.length=ps.length->bindArgs fd ⟨us,[]⟩=pure (ps.zip us)):Binds K fd ps []:=fun s us _ hl=>by
 rw [List.append_nil] at hl ⊢
 exact .of_eq (h us hl)
def Passes (CX:uT) (X:Cx) (E:XK):Prop:=∀ (pins:List (Addr × Obj)) (σ:St) (H:Hp) (s:Shared) (e:Value) (s':Shared),Inv X pins σ H s->CX X.stack H s E e s'->X.xe e s'
section
variable {X:Cx} {CX:uT} {k:Nat} {f C:Addr} {fd:FuncData} {ps:List Str} {sp:Sp} {dvs:List V} {ds:List Value} {E:XK} {x m:Str} {p pos apos:Pos} {e o:Expr} {es:List Expr} {ta:TE} {t:TA}
theorem Hi {pins:List (Addr × Obj)} {σ:St} {H:Hp} {s:Shared} {Q:VK} {us:List Value} {vs:List V} (F:jN X.prog X.w X.K X.mg X.base CX k f fd ps sp) (hr:eN k X.A) (hb:Binds X.K fd ps ds) (hd:Vals dvs ds) (hx:Passes CX X E)
  (I:Inv X pins σ H s) (r:Vals vs us) (h:sp (vs++dvs) H Q E):wpAny (model X.prog X.w) X.A (call (.ref f) us) (EP X pins σ Q) X.xe s:=by
 have r2:Vals (vs++dvs) (us++ds):=r.append hd
 have hl:(us++ds).length=ps.length:=by rw [<- r2.length];exact F.len _ _ _ _ h
 refine wpAny_call (codeAny_mono (F.run X.A X.stack s H ⟨us,[]⟩ (us++ds) (vs++dvs) Q E hr I.env0 (hb s us I.kIn hl) r2 h) fun r s' hq=>?_)
 cases r with
 | error e=>exact hx pins σ H s e s' I hq
 | ok fl =>
  cases fl with
  | ret u=>exact I.after hq
  | next=>exact False.elim hq
  | brk=>exact False.elim hq
  | cont=>exact False.elim hq
theorem Ms (F:jN X.prog X.w X.K X.mg X.base CX k f fd ps sp) (hr:eN k X.A) (hg:Gl X x) (hm:X.mg x=some (.ref f)) (hk:PySem.W.keepIn X.K (.ref f)=true) (hb:Binds X.K fd ps ds) (hd:Vals dvs ds) (hx:Passes CX X E)
  (ha:PA X (e :: es) t) (hdb:(x == ("__debug__":Str))=false:=by decide) (he:starEach (e :: es) X.env=(false,eval e X.env) :: starEach es X.env:=by rfl) (hpl:(backTo pos (starEach es X.env)).any (·.1)=false:=by rfl) :
  PE X (.Call (.Name x p) (e :: es) [] pos) (E2 sp dvs E t):=by
 intro pins s σ H Q I h
 refine wpAny_Call_Name_kw (El I hg hm ?_ hdb)
 refine PySem.W.callWith_K (h₀:=X.base) I.ok.mod.kin hk (bE (ha pos pins s σ H _ I h) fun us s1 ⟨vs,H1,I1,r,q⟩=>⟨I1.kIn,?_⟩) he hpl
 exact Hi F hr hb hd hx I1 r q
end
section
variable {X:Cx} {CX:uT} {k:Nat} {f C:Addr} {fd:FuncData} {ps ks:List Str} {sp:Sp} {E:XK} {x m:Str} {p pos apos kpos:Pos} {e o:Expr} {es:List Expr} {kws:List Keyword} {te ta:TE} {t tk:TA} {nm:Option Str}
variable {g:List Value->List Value->List Value} {gV:List V->List V->List V}
end
structure bH (N P:List Str) (sc:Scope):Prop where
 kind:sc.kind=.function
 co:sc.isCoroutine=false
 gen:sc.isGenerator=false
 nd:N.Nodup
 pre:N.take P.length=P
 par:∀ x∈P,sc.names.lookup x=some .local\/sc.names.lookup x=some .cell
 nofree:∀ y∈sc.names,y.2≠.free
theorem Bl {kindOf:Str->Option NameKind} {x:Str}:∀ {binds:List (Str × Value)} {m:Str->Option Value},(∀ v,(x,v) ∉ binds)->bindL kindOf binds m x=m x
 | [],_,_=>rfl
 | (n,v) :: r,m,h=>by
  unfold bindL
  rw [Bl fun w hw=>h w (List.mem_cons_of_mem _ hw)]
  split
  ·have:x≠n:=by rintro rfl;exact h v List.mem_cons_self
   simp [this]
  ·rfl
theorem A7 {kindOf:Str->Option NameKind} {x:Str}:∀ {binds:List (Str × Value)} {m:Str->Option Value},(∀ v,(x,v) ∉ binds)->bindC kindOf binds m x=m x
 | [],_,_=>rfl
 | (n,v) :: r,m,h=>by
  unfold bindC
  rw [A7 fun w hw=>h w (List.mem_cons_of_mem _ hw)]
  split
  ·rfl
  ·have:x≠n:=by rintro rfl;exact h v List.mem_cons_self
   simp [this]
theorem Bi {kindOf:Str->Option NameKind} {x:Str} {v:Value}:∀ {P:List Str} {vs:List Value} {i:Nat} {m:Str->Option Value},P.Nodup->P[i]?=some x->vs[i]?=some v->kindOf x=some .local ->
  bindL kindOf (P.zip vs) m x=some v
 | [],_,_,_,_,h,_,_=>by simp at h
 | _ :: _,[],_,_,_,_,h,_=>by simp at h
 | p :: P,w :: vs,0,m,nd,h1,h2,hk=>by
  simp at h1 h2;subst h1;subst h2
  show bindL kindOf ((p,w) :: P.zip vs) m p=_
  unfold bindL
  rw [Bl fun v hv=>(List.nodup_cons.mp nd).1 (List.of_mem_zip hv).1,if_pos hk]
  simp
 | p :: P,w :: vs,i + 1,m,nd,h1,h2,hk=>by
  show bindL kindOf ((p,w) :: P.zip vs) m x=_
  unfold bindL
  exact Bi (i:=i) (List.nodup_cons.mp nd).2 (by simpa using h1) (by simpa using h2) hk
theorem A6 {kindOf:Str->Option NameKind} {x:Str} {v:Value}:∀ {P:List Str} {vs:List Value} {i:Nat} {m:Str->Option Value},P.Nodup->P[i]?=some x->vs[i]?=some v->kindOf x≠some .local ->
  bindC kindOf (P.zip vs) m x=some v
 | [],_,_,_,_,h,_,_=>by simp at h
 | _ :: _,[],_,_,_,_,h,_=>by simp at h
 | p :: P,w :: vs,0,m,nd,h1,h2,hk=>by
  simp at h1 h2;subst h1;subst h2
  show bindC kindOf ((p,w) :: P.zip vs) m p=_
  unfold bindC
  rw [A7 fun v hv=>(List.nodup_cons.mp nd).1 (List.of_mem_zip hv).1,if_neg hk]
  simp
 | p :: P,w :: vs,i + 1,m,nd,h1,h2,hk=>by
  show bindC kindOf ((p,w) :: P.zip vs) m x=_
  unfold bindC
  exact A6 (i:=i) (List.nodup_cons.mp nd).2 (by simpa using h1) (by simpa using h2) hk
def start (N:List Str) (vs:List V):St:=vs.map some++List.replicate (N.length - vs.length) none
def AV (CX:uT) (P:Program) (w:World) (K:PySem.W.Frag) (mg:Str->Option Value) (base:Heap) (N:List Str) (qual:Str) (scope:Scope) (f:Addr) (cd:Value) (A:Around) (outer:List Env) (s:Shared) (H:Hp) (E:XK):Cx where
 prog:=P
 w:=w
 K:=K
 mg:=mg
 base:=base
 A:=A.deeper (envOfC qual scope s.heap.objs.size f cd)
 N:=N
 s₀:=s
 H₀:=H
 env:=envOfC qual scope s.heap.objs.size f cd
 outer:=outer
 stack:=envOfC qual scope s.heap.objs.size f cd :: outer
 ex:=[]
 calm:=true
 fn:=fun _=>true
 pn:=[]
 xe:=fun e s'=>wpAny (model P w) (A.deeper (envOfC qual scope s.heap.objs.size f cd)) (leaving (envOfC qual scope s.heap.objs.size f cd) e) (fun _ s''=>CX outer H s E e s'') (fun e' s''=>CX outer H s E e' s'') s'
theorem Cm {sc:Scope} {n:Nat} {x:Str} (h:sc.names.lookup x=some .cell):∃ c,(cellsFrom n sc.names []).lookup x=some c:=by
 have q:=PySem.W.cellsFrom_some sc.names n [] (.inl h)
 exact Option.isSome_iff_exists.mp q
theorem Hq {CX:uT} {P:Program} {w:World} {K:PySem.W.Frag} {mg:Str->Option Value} {base:Heap} {N ps:List Str} {qual:Str} {scope:Scope} {f:Addr} {cd:Value} {A:Around} {outer:List Env} {s s1:Shared} {H:Hp} {E:XK} {us:List Value} {vs:List V}
  (S:bH N ps scope) (hd:A.handled=none) (e0:FL P w K mg base A outer s H) (hl:vs.length=ps.length) (r:Vals vs us)
  (x:InCallC s s.heap.objs.size (bindL (envOfC qual scope s.heap.objs.size f cd).kindOf (ps.zip us) fun _=>none) (cellsFrom (s.heap.objs.size + 1) scope.names []) (bindC (envOfC qual scope s.heap.objs.size f cd).kindOf (ps.zip us) fun _=>none) s1) :
  Inv (AV CX P w K mg base N qual scope f cd A outer s H E) [] (start N vs) H s1:=by
 have hpl:ps.length<=N.length:=by have:=congrArg List.length S.pre;rw [List.length_take] at this;omega
 obtain ⟨h1,tk,rfl,hk⟩:=x.done
 have noA:∀ b:Addr,b ∉ (AV CX P w K mg base N qual scope f cd A outer s H E).ex:=fun b z=>absurd (show b∈([]:List Addr) from z) (by simp)
 refine ⟨⟨e0.mod,S.kind,rfl,rfl,Nat.le_refl _,fun y z c h1 h2=>?_,fun y hy=>?_,fun y c _ h=>?_,fun _=>hd,Around.frames_deeper e0.frames,.inr ⟨rfl,rfl⟩,fun b z=>absurd z (noA b),e0.bs,e0.bsz,fun b _ _=>noA b,fun b z=>absurd z (noA b),e0.funs,e0.frf⟩,
  rfl,e0.bare,Un.kept hk,⟨_,x.toInCall.ns,fun i y v h1 h2 h3=>?_⟩,fun y c h=>⟨_,x.cell y c h⟩,e0.hok.fresh (Nat.le_refl _),fun y c h=>?_,fun p hp=>absurd (show p∈([]:List (Addr × Obj)) from hp) (by simp),e0.hok.kept hk,?_⟩
 ·exact name_of_addr x.apart (PySem.mem_of_lookup h1) (PySem.mem_of_lookup h2)
 ·have hy:scope.names.lookup y=some .cell\/scope.names.lookup y=some .free:=hy
  rcases hy with hy | hy
  ·exact Cm hy
  ·exact absurd rfl (S.nofree _ (PySem.mem_of_lookup hy))
 ·exact Nat.le_of_lt (x.above y c (PySem.mem_of_lookup h))
 ·have hi:i < vs.length:=by
   unfold start at h2
   by_cases hi:i < vs.length
   ·exact hi
   ·rw [List.getElem?_append_right (by simpa using hi)] at h2
    rw [List.getElem?_replicate] at h2
    split at h2 <;> cases h2
  have ha:vs[i]?=some v:=by
   unfold start at h2
   rw [List.getElem?_append_left (by simpa using hi),List.getElem?_map] at h2
   cases e:vs[i]? with
   | none=>rw [e] at h2;cases h2
   | some a=>rw [e] at h2;cases h2;rfl
  obtain ⟨u,hu,rv⟩:=r.get ha
  have hp:ps[i]?=some y:=by
   rw [<- S.pre,List.getElem?_take_of_lt (by omega)];exact h1
  have ndP:ps.Nodup:=by rw [<- S.pre];exact S.nd.sublist (List.take_sublist _ _)
  refine ⟨u,rv,?_⟩
  rcases S.par y (List.mem_of_getElem? hp) with k | k
  ·exact .inl ⟨k,Bi ndP hp hu k⟩
  ·obtain ⟨c,e⟩:=Cm (n:=s.heap.objs.size + 1) k
   refine .inr ⟨.inl k,c,e,?_⟩
   have q:=x.cell y c e
   rw [A6 ndP hp hu (by show scope.names.lookup y≠_;rw [k];decide)] at q
   exact q
 ·exact e0.hok.fresh (Nat.le_of_lt (x.above y c (PySem.mem_of_lookup h)))
 ·unfold start
  show _=N.length
  rw [List.length_append,List.length_map,List.length_replicate]
  omega
theorem Qe {CX:uT} {P:Program} {w:World} {K:PySem.W.Frag} {mg:Str->Option Value} {base:Heap} {k:Nat} {f:Addr} {name qual:Str} {params:Arguments} {body:List Stmt} {scope:Scope} {dV kV doc pm cdv ct oc:Value} {an od:Option Addr}
  {osl:Array (Option Value)} {N ps:List Str} {sp:Sp} (lk:K.lookup f=some ⟨oc,od,.func (PySem.W.fnOf name qual params body scope dV kV doc pm an cdv ct),osl⟩) (hcd:PySem.W.codeIn K cdv qual=true) (S:bH N ps scope)
  (len:∀ vs H Q E,sp vs H Q E->vs.length=ps.length)
  (hbody:∀ (A:Around) (outer:List Env) (s:Shared) (H:Hp) (vs:List V) (Q:VK) (E:XK),eN k (A.deeper (envOfC qual scope s.heap.objs.size f cdv))->sp vs H Q E ->
   ∃ t,qH (AV CX P w K mg base N qual scope f cdv A outer s H E) body t/\t { nx:=fun _ H'=>Q .non H',rt:=Q } (start N vs) H) :
  jN P w K mg base CX (k + 1) f (PySem.W.fnOf name qual params body scope dV kV doc pm an cdv ct) ps sp:=by
 refine ⟨len,fun A outer s H args us vs Q E hr e0 hb r hsp=>?_⟩
 have hl:=len _ _ _ _ hsp
 have KX:K.In s.heap:=e0.mod.kin.keeps fun b o e=>(e0.bs b o e).1
 have lim:s.heap.NoLimit:=e0.mod.nolimit.keeps fun b o e=>(e0.bs b o e).1
 have hkind:∀ y∈ps.zip us,scope.names.lookup y.1=some .local\/(scope.names.lookup y.1=some .cell/\((cellsFrom (s.heap.objs.size + 1) scope.names []).lookup y.1).isSome=true):=fun ⟨n,v⟩ hy=>by
  rcases S.par n (List.of_mem_zip hy).1 with q | q
  ·exact .inl q
  ·exact .inr ⟨q,PySem.W.cellsFrom_some _ _ _ (.inl q)⟩
 refine codeAny_call_function hr.depth (KX _ _ lk) rfl S.co S.gen rfl (PySem.W.codeRec_of KX hcd) (hb _ _ _ _ ?_)
 refine wpAny_newFunctionEnv_cells S.kind hkind fun env he s1 x=>?_
 subst he
 refine ⟨lim.keeps x.toInCall.keep,codeAny_func ?_⟩
 obtain ⟨t,ht,hq⟩:=hbody A outer s H vs Q E (hr.deeper _) hsp
 have I:Inv (AV CX P w K mg base N qual scope f cdv A outer s H E) [] (start N vs) H s1:=Hq S hr.hd e0 hl r x
 refine wpAny_mono (ht [] s1 (start N vs) H _ I hq) (fun fl s' hs=>?_) fun e s' hs=>hs
 have fin:∀ {σ':St} {H':Hp} {v:V} {u:Value},Inv (AV CX P w K mg base N qual scope f cdv A outer s H E) [] σ' H' s'->RelV v u->Q v H'->CE outer P w H s Q u s' :=
  fun {σ' H' v u} J rv q=>⟨v,H',J.os,J.bare,J.base,J.hok,rv,q⟩
 cases fl with
 | ret u =>
  obtain ⟨v,σ',H',J,rv,q⟩:=hs
  exact fin J rv q
 | next =>
  obtain ⟨σ',H',J,q⟩:=hs
  exact fin (v:=V.non) (u:=Value.none) J rfl q
 | brk =>
  obtain ⟨_,_,_,q⟩:=hs
  exact False.elim q
 | cont =>
  obtain ⟨_,_,_,q⟩:=hs
  exact False.elim q
section
variable {X:Cx} {x:Str} {p pos:Pos} {e:Expr} {es:List Expr} {t:TA} {id T:String} {r:List V->Hp->VK->Prop}
def ON (r:List V->Hp->VK->Prop) (t:TA):TE:=fun σ H Q=>t σ H fun vs H1=>r vs H1 Q
theorem JS (hc:lF X (.builtin id) r) (hg:Gl X x) (hm:X.mg x=none) (hv:bootBuiltins x=some (.builtin id)) (ha:PA X (e :: es) t) (hn:x≠"__name__":=by decide) (hdb:(x == ("__debug__":Str))=false:=by decide)
  (he:starEach (e :: es) X.env=(false,eval e X.env) :: starEach es X.env:=by rfl) (hpl:(backTo pos (starEach es X.env)).any (·.1)=false:=by rfl):PE X (.Call (.Name x p) (e :: es) [] pos) (ON r t):=by
 intro pins s σ H Q I h
 refine wpAny_Call_Name_kw (nK I hg hm hv ?_ hn hdb)
 exact PyProof.Rows.callWith_builtin1 (bE (ha pos pins s σ H _ I h) fun us s1 ⟨vs,H1,I1,r1,q1⟩=>hc pins s1 σ H1 vs us Q I1 r1 q1) he hpl
theorem GS (hc:lF X (.type T) r) (hg:Gl X x) (hm:X.mg x=none) (hv:bootBuiltins x=some (.type T)) (ha:PA X (e :: es) t) (hn:x≠"__name__":=by decide) (hdb:(x == ("__debug__":Str))=false:=by decide)
  (he:starEach (e :: es) X.env=(false,eval e X.env) :: starEach es X.env:=by rfl) (hpl:(backTo pos (starEach es X.env)).any (·.1)=false:=by rfl):PE X (.Call (.Name x p) (e :: es) [] pos) (ON r t):=by
 intro pins s σ H Q I h
 refine wpAny_Call_Name_kw (nK I hg hm hv ?_ hn hdb)
 exact PyProof.Rows.callWith_type1 (bE (ha pos pins s σ H _ I h) fun us s1 ⟨vs,H1,I1,r1,q1⟩=>hc pins s1 σ H1 vs us Q I1 r1 q1) he hpl
end
end L2
namespace HT
open PySem PyProof.Rows
def lexLt:List Int->List Int->Bool
 | [],[]=>false
 | [],_ :: _=>true
 | _ :: _,[]=>false
 | x :: xs,y :: ys=>if x=y then lexLt xs ys else decide (x < y)
theorem F0 (x y:Int) (xs ys:List Int):lexLt (x :: xs) (y :: ys)=if x=y then lexLt xs ys else decide (x < y):=rfl
theorem Bt:lexLt [] []=false:=rfl
theorem AI (y:Int) (ys:List Int):lexLt [] (y :: ys)=true:=rfl
theorem AE (x:Int) (xs:List Int):lexLt (x :: xs) []=false:=rfl
theorem IW (A:Around) (s:Shared) (a:Int) (t:Tok) (c:Int) (u:Tok):∃ e,SeqAt.EqAt A s (.int a t) (.int c u) e/\(e=true ↔ a=c) :=
 ⟨(a == c),SeqAt.EqAt.int_int a t c u,by simp⟩
theorem KI (A:Around) (s:Shared) (a:Int) (t:Tok) (c:Int) (u:Tok) (prog:Program) (w:World) (E:Value->Shared->Prop) (Q:Value->Shared->Prop) (h:Q (.bool (decide (a < c))) s) :
  wpAny (model prog w) A (richCompare .Lt (.int a t) (.int c u)) Q E s :=
 (PyProof.Rows.lt_int h:wpAny (model prog w) A (compareOp .Lt (.int a t) (.int c u)) Q E s)
section
open PySem.SeqAt
open PySem.AutoSeq1 (wpAny_loadPart')
open PySem.MeetsSeq PySem.MeetsSeq2 PySem.MeetsSeq3
theorem Bo (l b:Addr) (items items2:Array Value) (n n2:Nat) (dd dd2:Option Addr) (sl sl2:Array (Option Value)) (ns ms:List Int) (hi:IntsAre items.toList ns) (hj:IntsAre items2.toList ms) :
  Meets (Builtin.«tuple.__lt__» ⟨[.ref l,.ref b],[]⟩)
   (fun _ R s=>s.heap.get? l=some { cls:=.type "tuple",dict:=dd,data:=.seq items n,slots:=sl }/\s.heap.get? b=some { cls:=.type "tuple",dict:=dd2,data:=.seq items2 n2,slots:=sl2 } /\
    R (.ok (.ret (.bool (lexLt ns ms)))) s) :=
 .of_wp fun prog w A R s h=>by
  obtain ⟨hp,g,d,tk,os⟩:=s;obtain ⟨hl,hb,h⟩:=h
  have f2:=AutoSeq1.sub_tuple_tuple
  have z1:items.size=ns.length:=by rw [<- hi.length];simp
  have z2:items2.size=ms.length:=by rw [<- hj.length];simp
  wp_walk using wpAny_loadPart' hl,wpAny_loadPart' hb,wpAny_forIn_list _ (fun rest b s'=>b.1=none/\s'=⟨hp,g,d,tk,os⟩/\∃ (vs ws:List Value) (ns' ms':List Int),rest=vs.zip ws /\
   IntsAre vs ns'/\IntsAre ws ms'/\ns'.length + items2.size=ms'.length + items.size/\R (.ok (.ret (.bool (lexLt ns' ms')))) ⟨hp,g,d,tk,os⟩) _
  case turn =>
   rintro ⟨y,x⟩ rest b s' ⟨hb',rfl,vs,ws,ns',ms',hz,hvi,hwi,hlen,hR⟩
   cases hvi with
   | nil=>rw [List.zip_nil_left] at hz;cases hz
   | cons a t hvi' =>
    cases hwi with
    | nil=>rw [List.zip_nil_right] at hz;cases hz
    | cons c u hwi' =>
     rw [List.zip_cons_cons] at hz
     injection hz with hyx hrest
     injection hyx with hy hx
     subst hy hx
     rw [F0] at hR
     simp only [List.length_cons] at hlen
     obtain ⟨e,he,hiff⟩:=IW A.in1 ⟨hp,g,d,tk,os⟩ a t c u
     refine wpAny_bind (he prog w _ _ ?_)
     cases e with
     | true =>
      rw [if_pos (hiff.mp rfl)] at hR
      wp_walk
      exact ⟨rfl,rfl,_,_,_,_,hrest,hvi',hwi',by omega,hR⟩
     | false =>
      rw [if_neg (fun q=>absurd (hiff.mpr q) Bool.false_ne_true)] at hR
      have hri:=KI A.in1 ⟨hp,g,d,tk,os⟩ a t c u prog w
      wp_walk using hri
      exact ⟨_,rfl,by simpa using hR⟩
  case fin =>
   rintro ⟨b1,b2⟩ s' ⟨hb',rfl,vs,ws,ns',ms',hz,hvi,hwi,hlen,hR⟩
   simp only at hb'
   subst hb'
   have hv:lexLt ns' ms'=decide (items.size < items2.size):=by
    cases hvi with
    | nil =>
     cases hwi with
     | nil =>
      simp only [List.length_nil] at hlen
      rw [Bt]
      exact (decide_eq_false (by omega)).symm
     | cons c u hw =>
      simp only [List.length_nil,List.length_cons] at hlen
      rw [AI]
      exact (decide_eq_true (by omega)).symm
    | cons a t hv =>
     cases hwi with
     | nil =>
      simp only [List.length_nil,List.length_cons] at hlen
      rw [AE]
      exact (decide_eq_false (by omega)).symm
     | cons c u hw =>
      rw [List.zip_cons_cons] at hz
      cases hz
   rw [hv] at hR
   wp_walk
   exact ⟨_,rfl,by simpa [Builtin.Tuple.tupleCompareSizes] using hR⟩
  case h =>
   exact ⟨rfl,rfl,items.toList,items2.toList,ns,ms,rfl,hi,hj,by omega,h⟩
end
section
variable {prog:Program} {w:World} {A:Around} {E:Value->Shared->Prop} {s:Shared}
theorem F1 {l b:Addr} {items items2:Array Value} {ns ms:List Int} {Q:Value->Shared->Prop} (hl:IsTup s.heap l items) (hb:IsTup s.heap b items2) (hi:IntsAre items.toList ns) (hj:IntsAre items2.toList ms)
  (hu:A.units < cLine) (h:Q (.bool (lexLt ns ms)) s):wpAny (model prog w) A (compareOp .Lt (.ref l) (.ref b)) Q E s:=by
 obtain ⟨⟨cls,dd,data,sl⟩,ho,hc,n,hd⟩:=id hl
 obtain ⟨⟨cls2,dd2,data2,sl2⟩,ho2,hc2,n2,hd2⟩:=id hb
 simp only at hc hd hc2 hd2
 subst hc hd hc2 hd2
 exact richCompare_meets_room (op:=.Lt) ⟨_,ho,rfl⟩ ⟨_,ho2,rfl⟩ PySem.F.slot_tuple_lt PySem.F.entry_tuple_lt (PySem.F.args_tuple_lt_2 _ _) (Bo l b items items2 n n2 dd dd2 sl sl2 ns ms hi hj)
  ⟨ho,ho2,show Value.bool (lexLt ns ms)≠Value.notImplemented/\Q (.bool (lexLt ns ms)) s from ⟨(fun x=>nomatch x),h⟩⟩ hu
theorem MY {t b:Addr} {vs ws:List Value} {Q:Value->Shared->Prop} (ht:IsTup s.heap t vs.toArray) (hb:IsTup s.heap b ws.toArray) (hv:vs≠[])
  (h1:ws=[]->Q (.ref t) s) (h2:ws≠[]->Q (.ref s.heap.objs.size) { s with heap:=s.heap.push { cls:=.type "tuple",data:=.seq (vs++ws).toArray } })
  (hsz:vs.length + ws.length<=sizeLine):wpAny (model prog w) A (binaryOp .Add (.ref t) (.ref b)) Q E s:=by
 obtain ⟨⟨cls,dd,data,sl⟩,ho,hc,n,hd⟩:=id ht
 obtain ⟨⟨cls2,dd2,data2,sl2⟩,ho2,hc2,n2,hd2⟩:=id hb
 simp only at hc hd hc2 hd2
 subst hc hd hc2 hd2
 have e:vs.toArray++ws.toArray=(vs++ws).toArray:=by simp
 by_cases hw:ws=[]
 ·exact concat_meets ⟨_,ho,rfl⟩ ⟨_,ho2,rfl⟩ noFill_tuple_add seq_tuple_add PySem.F.slot_tuple_add PySem.F.entry_tuple_add (PySem.F.args_tuple_add_2 _ _)
   (tuple_addW1 t b vs.toArray ws.toArray n n2 dd dd2 sl sl2 (by simpa using hv) (by simp [hw])) ⟨ho,ho2,h1 hw⟩
 ·refine concat_meets ⟨_,ho,rfl⟩ ⟨_,ho2,rfl⟩ noFill_tuple_add seq_tuple_add PySem.F.slot_tuple_add PySem.F.entry_tuple_add (PySem.F.args_tuple_add_2 _ _)
   (tuple_addW2 t b vs.toArray ws.toArray n n2 dd dd2 sl sl2 (by simpa using hv) (by simpa using hw) (by rw [List.size_toArray,List.size_toArray];exact hsz)) ⟨ho,ho2,?_⟩
  rw [e]
  exact h2 hw
def bP (n d:Nat):Option Int->Nat
 | none=>d
 | some v=>if v < 0 then (v + (n:Int)).toNat else min v.toNat n
theorem Od (n d:Nat) (hd:d<=n) (o:Option Int):bP n d o<=n:=by
 cases o with
 | none=>exact hd
 | some v =>
  show (if v < 0 then (v + (n:Int)).toNat else min v.toNat n)<=n
  by_cases hv:v < 0
  ·rw [if_pos hv];omega
  ·rw [if_neg hv];exact Nat.min_le_right _ _
theorem EK (v:Int) (n d:Nat):(if v < 0 then max (v + (n:Int)) 0 else min v (n:Int))=((bP n d (some v):Nat):Int):=by
 show (if v < 0 then max (v + (n:Int)) 0 else min v (n:Int))=(((if v < 0 then (v + (n:Int)).toNat else min v.toNat n):Nat):Int)
 by_cases hv:v < 0
 ·simp only [if_pos hv];omega
 ·simp only [if_neg hv];omega
theorem Gk (lo hi:Option Int) (n:Nat):Builtin.Slice.sliceAdjust lo hi 1 (n:Int)=(((bP n 0 lo:Nat):Int),((bP n n hi:Nat):Int)):=by
 have h1:¬ ((1:Int) < 0):=by omega
 unfold Builtin.Slice.sliceAdjust
 simp only [h1,if_false]
 refine Prod.ext ?_ ?_
 ·cases lo with
  | none=>rfl
  | some v=>exact EK v n 0
 ·cases hi with
  | none=>rfl
  | some v=>exact EK v n n
theorem FY (i j:Nat):Builtin.Slice.slicePlaces (i:Int) (j:Int) 1=j - i:=by
 unfold Builtin.Slice.slicePlaces
 have h1:(1:Int) > 0:=by omega
 simp only [h1,if_true,Int.ediv_one]
 split <;> omega
theorem zU {v:Value} {o:Option Int} {Q:Option Int->Shared->Prop} (p:IsPart v o) (h:Q o s):wpAny (model prog w) A (Builtin.Slice.slicePartIndex v) Q E s:=by
 cases p with
 | none=>exact slicePart_none h
 | int i t=>exact slicePart_int h
theorem pA {sl:Addr} {vl vu:Value} {lo hi:Option Int} {n:Nat} {Q:Int × Int × Nat->Shared->Prop} (hs:s.heap.IsSliceOf sl vl vu .none) (pl:IsPart vl lo) (pu:IsPart vu hi)
  (h:Q (((bP n 0 lo:Nat):Int),1,bP n n hi - bP n 0 lo) s):wpAny (model prog w) A (Builtin.Slice.sliceApplied (.ref sl) (pure (n:Int))) Q E s:=by
 obtain ⟨os,hos,hcs,hds⟩:=id hs
 unfold Builtin.Slice.sliceApplied Builtin.Slice.sliceFields
 refine wpAny_bind (wpAny_bind (wpAny_field hos hds (x:=vl) rfl (wpAny_bind (wpAny_field hos hds (x:=vu) rfl (wpAny_bind (wpAny_field hos hds (x:=.none) rfl (wpAny_pure ?_)))))))
 refine wpAny_bind (slicePart_none ?_)
 show wpAny _ _ (if ((1:Int) == 0)=true then _ else _) _ _ s
 rw [if_neg (by decide)]
 refine wpAny_bind (zU pl (wpAny_bind (zU pu (wpAny_bind (wpAny_pure ?_)))))
 show wpAny _ _ (match Builtin.Slice.sliceAdjust lo hi 1 (n:Int) with | (lo,hi)=>pure (lo,(1:Int),Builtin.Slice.slicePlaces lo hi 1)) _ _ s
 rw [Gk lo hi n]
 show wpAny _ _ (pure (((bP n 0 lo:Nat):Int),(1:Int),Builtin.Slice.slicePlaces ((bP n 0 lo:Nat):Int) ((bP n n hi:Nat):Int) 1)) _ _ s
 rw [FY]
 exact wpAny_pure h
theorem KA (xs:Array Value) (i k:Nat):((List.range k).filterMap fun (m:Nat)=>xs[((i:Int) + (m:Int) * 1).toNat]?).toArray=((xs.toList.drop i).take k).toArray:=by
 have e:(fun (m:Nat)=>xs[((i:Int) + (m:Int) * 1).toNat]?)=fun m=>xs[i + m]?:=by
  funext m
  have:((i:Int) + (m:Int) * 1).toNat=i + m:=by omega
  rw [this]
 rw [e]
 have:=pick_run xs i k
 rw [List.filterMap_map] at this
 have e2:((fun x=>xs[x]?) ∘ fun x=>i + x)=fun m=>xs[i + m]?:=rfl
 rw [e2] at this
 rw [this]
theorem wG {t sl:Addr} {items:Array Value} {vl vu:Value} {lo hi:Option Int} {Q:Value->Shared->Prop} (ht:IsTup s.heap t items) (hs:s.heap.IsSliceOf sl vl vu .none) (pl:IsPart vl lo) (pu:IsPart vu hi)
  (hw:¬ (bP items.size 0 lo=0/\bP items.size items.size hi=items.size))
  (h:Q (.ref s.heap.objs.size) { s with heap:=s.heap.push { cls:=.type "tuple",data:=.seq ((items.toList.drop (bP items.size 0 lo)).take (bP items.size items.size hi - bP items.size 0 lo)).toArray } })
  (hsz:items.size<=sizeLine):wpAny (model prog w) A (getItem (.ref t) (.ref sl)) Q E s:=by
 have htake:sizeOk (.seq ((items.toList.drop (bP items.size 0 lo)).take (bP items.size items.size hi - bP items.size 0 lo)).toArray):=by
  show ((items.toList.drop (bP items.size 0 lo)).take (bP items.size items.size hi - bP items.size 0 lo)).toArray.size<=sizeLine
  rw [List.size_toArray,List.length_take,List.length_drop,Array.length_toList]
  omega
 have hj:bP items.size items.size hi<=items.size:=Od _ _ (Nat.le_refl _) hi
 obtain ⟨os,hos,hcs,hds⟩:=id hs
 have hTs:s.TypeIs (.ref sl) "slice":=⟨os,hos,hcs⟩
 unfold getItem
 try with_reducible refine wpAny_holding ?_
 first | refine wpAny_bind (wpAny_pure ?_) | skip
 refine wpAny_bind (wpAny_sequenceKey ht.typeIs (by decide) ?_)
 refine wpAny_bind (wpAny_callSpecial?_slot (name:=Str.ofString "__getitem__") ht.typeIs PyProof.Rows.slot_tuple_getitem
  (wpAny_call_entry PyProof.Rows.slot_tuple_getitem ht.typeIs entry_tuple_getitem ?_ (args_tuple_getitem _ _)))
 show wpAny _ _ (Builtin.Tuple.tupleItemsOf (.ref t) >>= _) _ _ s
 refine wpAny_bind (tupleItemsOf_ ht ?_)
 refine wpAny_bind (wpAny_typeOf hTs ?_)
 rw [if_pos (by decide)]
 refine wpAny_bind (pA hs pl pu ?_)
 have hno:¬ ((((bP items.size 0 lo:Nat):Int) == 0 && (1:Int) == 1 && (bP items.size items.size hi - bP items.size 0 lo) == items.size)=true):=by
  intro q
  rw [Bool.and_eq_true,Bool.and_eq_true] at q
  have q1:((bP items.size 0 lo:Nat):Int)=0:=eq_of_beq q.1.1
  have q2:bP items.size items.size hi - bP items.size 0 lo=items.size:=eq_of_beq q.2
  exact hw ⟨by omega,by omega⟩
 show wpAny _ _ (if (((bP items.size 0 lo:Nat):Int) == 0 && (1:Int) == 1 && (bP items.size items.size hi - bP items.size 0 lo) == items.size)=true then _ else _) _ _ s
 rw [if_neg hno,KA]
 first
  | exact wpAny_bind (m:=Builtin.Tuple.tupleExact _) (wpAny_newObj_type (wpAny_pure ⟨_,rfl,wpAny_pure h⟩) htake)
  | exact wpAny_bind (m:=Builtin.Tuple.tupleExact _) (wpAny_newObj_type (wpAny_bind (wpAny_pure (wpAny_pure ⟨_,rfl,wpAny_pure h⟩))) htake)
  | exact wpAny_bind (wpAny_bind (m:=Builtin.Tuple.tupleExact _) (wpAny_newObj_type (wpAny_pure (wpAny_pure ⟨_,rfl,wpAny_pure h⟩)) htake))
  | exact wpAny_bind (wpAny_bind (m:=Builtin.Tuple.tupleExact _) (wpAny_newObj_type (wpAny_pure ⟨_,rfl,wpAny_pure h⟩) htake))
end
end HT
namespace L2
open PySem PySem.Spec PyProof.Rows
abbrev TO:=St->Hp->(Option Int->Hp->Prop)->Prop
def PO (X:Cx) (e:Option Expr) (t:TO):Prop :=
 ∀ (pins:List (Addr × Obj)) (s:Shared) (σ:St) (H:Hp) (Q:Option Int->Hp->Prop),Inv X pins σ H s->t σ H Q ->
  wpAny (model X.prog X.w) X.A (evalPart e X.env) (fun u s'=>∃ o H',Inv X pins σ H' s'/\IsPart u o/\Q o H') X.xe s
def D9:TO:=fun _ H Q=>Q none H
def LG (t:TE):TO:=fun σ H Q=>t σ H fun x H1=>∃ i,x=.int i/\Q (some i) H1
theorem intsAre_of {ns:List Int}:∀ {us:List Value},Vals (ns.map V.int) us->IntsAre us ns:=by
 induction ns with
 | nil=>intro us r;rw [List.map_nil] at r;cases r;exact .nil
 | cons n ns ih =>
  intro us r
  rw [List.map_cons] at r
  cases r with
  | cons r1 r2 =>
   obtain ⟨t,e⟩:=r1
   subst e
   exact .cons n t (ih r2)
section
variable {X:Cx} {e:Expr} {te:TE} {lo hi:Option Expr} {tl th:TO} {pos p2:Pos}
theorem Mt:PO X none D9:=by
 intro pins s σ H Q I h
 rw [evalPart_none]
 exact wpAny_pure ⟨none,H,I,.none,h⟩
theorem MW (h:PE X e te):PO X (some e) (LG te):=by
 intro pins s σ H Q I hw
 rw [evalPart_some]
 refine bE (h pins s σ H _ I hw) fun u s1 ⟨x,H1,I1,r1,q1⟩=>?_
 obtain ⟨i,rfl,q⟩:=q1
 obtain ⟨t,rfl⟩:=r1
 exact ⟨some i,H1,I1,.int i t,q⟩
def wR (X:Cx) (r:V->Option Int->Option Int->Hp->VK->Prop):Prop :=
 ∀ (pins:List (Addr × Obj)) (s:Shared) (σ:St) (H:Hp) (x:V) (v vl vu:Value) (lo hi:Option Int) (sl:Addr) (Q:VK),Inv X pins σ H s->RelV x v->s.heap.IsSliceOf sl vl vu .none->IsPart vl lo->IsPart vu hi->r x lo hi H Q ->
  ∃ T id,typeLookup (.type T) "__getitem__"=pure (some (.builtin id))/\s.TypeIs v T/\wpAny (model X.prog X.w) X.A (getItem v (.ref sl)) (EP X pins σ Q) X.xe s
theorem wR.or {r r':V->Option Int->Option Int->Hp->VK->Prop} (h:wR X r) (h':wR X r'):wR X (fun x lo hi H Q=>r x lo hi H Q\/r' x lo hi H Q):=by
 intro pins s σ H x v vl vu lo hi sl Q I rx hs pl pu q
 rcases q with q | q
 ·exact h pins s σ H x v vl vu lo hi sl Q I rx hs pl pu q
 ·exact h' pins s σ H x v vl vu lo hi sl Q I rx hs pl pu q
def QY (r:V->Option Int->Option Int->Hp->VK->Prop) (te:TE) (tl th:TO):TE:=fun σ H Q=>te σ H fun x H1=>tl σ H1 fun l H2=>th σ H2 fun u H3=>r x l u H3 Q
theorem JU {r:V->Option Int->Option Int->Hp->VK->Prop} (hr:wR X r) (he:PE X e te) (hl:PO X lo tl) (hu:PO X hi th):PE X (.Subscript e (.Slice lo hi none p2) pos) (QY r te tl th):=by
 intro pins s σ H Q I h
 refine Subscript_ (bE (he pins s σ H _ I h) fun v s1 ⟨x,H1,I1,r1,q1⟩=>?_)
 refine wpAny_Slice (bE (hl pins s1 σ H1 _ I1 q1) fun vl s2 ⟨l,H2,I2,pl,q2⟩=>bE (hu pins s2 σ H2 _ I2 q2) fun vu s3 ⟨u,H3,I3,pu,q3⟩=>?_)
 rw [evalPart_none]
 refine wpAny_pure ?_
 have I4:Inv X pins σ H3 { s3 with heap:=s3.heap.push { cls:=.type "slice",data:=.fields #[vl,vu,.none] } }:=I3.kept (t':=s3.toks) fun b ob q=>Heap.get?_push_of_some _ q
 obtain ⟨T,id,hT,ht,hg⟩:=hr pins { s3 with heap:=s3.heap.push { cls:=.type "slice",data:=.fields #[vl,vu,.none] } } σ H3 x v vl vu l u s3.heap.objs.size Q I4 r1 (Heap.IsSliceOf.new ..) pl pu q3
 show wpAny (model X.prog X.w) X.A (subscriptTail e (.Slice lo hi none p2) v (.ref s3.heap.objs.size)) (EP X pins σ Q) X.xe { s3 with heap:=s3.heap.push { cls:=.type "slice",data:=.fields #[vl,vu,.none] } }
 exact tail_any (ops:=[.ref s3.heap.objs.size,v]) ht hT hg (by with_unfolding_all rfl)
def qV (xs:List V) (lo hi:Option Int):List V:=(xs.drop (HT.bP xs.length 0 lo)).take (HT.bP xs.length xs.length hi - HT.bP xs.length 0 lo)
theorem wO (xs:List V) (lo hi:Option Int):(qV xs lo hi).length<=xs.length:=by
 unfold qV
 rw [List.length_take,List.length_drop]
 omega
def Ri (K:PySem.W.Frag):V->Option Int->Option Int->Hp->VK->Prop:=fun x lo hi H Q=>∃ a xs,x=.ref a/\eW K H a xs /\
 ¬ (HT.bP xs.length 0 lo=0/\HT.bP xs.length xs.length hi=xs.length)/\∀ p,H p=none->Q (.ref p) (upd H p (.tup (qV xs lo hi)))
theorem NS:wR X (Ri X.K):=by
 intro pins s σ H x v vl vu lo hi sl Q I rx hs pl pu h
 obtain ⟨a,xs,rfl,hx,hw,q⟩:=h
 cases rx
 obtain ⟨its,r,ht,hz⟩:=I.tuple hx
 have hlen:its.toArray.size=xs.length:=by rw [List.size_toArray];exact r.length.symm
 refine ⟨"tuple",_,PyProof.Rows.slot_tuple_getitem.lookup,ht.typeIs,?_⟩
 refine HT.wG ht hs pl pu (by rw [hlen];exact hw) ?_ (by rw [hlen];exact hz)
 rw [hlen]
 refine ⟨.ref s.heap.objs.size,_,I.laid (t':=s.toks) (o:=.tup (qV xs lo hi)) (fun b ob q=>Heap.get?_push_of_some _ q) (Nat.le_refl _) ?_,rfl,q _ (I.hok.fresh (Nat.le_refl _))⟩
 exact ⟨Nat.le_trans (wO xs lo hi) hz,_,(r.drop (HT.bP xs.length 0 lo)).take (HT.bP xs.length xs.length hi - HT.bP xs.length 0 lo),iS.new _ _⟩
def Rh (K:PySem.W.Frag):R2:=fun x y H Q=>∃ a b ns ms,x=.ref a/\y=.ref b/\eW K H a (ns.map V.int)/\eW K H b (ms.map V.int)/\Q (.bl (HT.lexLt ns ms)) H
theorem PC (hu:X.A.units < cLine):dD X (compareOp .Lt) (Rh X.K):=by
 intro pins s σ H x y v u Q I rx ry h
 obtain ⟨a,b,ns,ms,rfl,rfl,ha,hb,q⟩:=h
 cases rx
 cases ry
 obtain ⟨its,r1,p1,_⟩:=I.tuple ha
 obtain ⟨its2,r2,p2,_⟩:=I.tuple hb
 have i1:IntsAre its.toArray.toList ns:=intsAre_of r1
 have i2:IntsAre its2.toArray.toList ms:=intsAre_of r2
 exact HT.F1 p1 p2 i1 i2 hu ⟨.bl (HT.lexLt ns ms),H,I,rfl,q⟩
def QI (K:PySem.W.Frag):R2:=fun x y H Q=>∃ a b xs ys,x=.ref a/\y=.ref b/\eW K H a xs/\eW K H b ys/\xs≠[]/\xs.length + ys.length<=sizeLine /\
 (ys=[]->Q (.ref a) H)/\(ys≠[]->∀ p,H p=none->Q (.ref p) (upd H p (.tup (xs++ys))))
theorem Vals.nil_iff {xs:List V} {us:List Value} (r:Vals xs us):us=[] ↔ xs=[]:=by
 cases r with
 | nil=>simp
 | cons _ _=>simp
theorem Mu:dD X (binaryOp .Add) (QI X.K):=by
 intro pins s σ H x y v u Q I rx ry h
 obtain ⟨a,b,xs,ys,rfl,rfl,ha,hb,hx,hz,q1,q2⟩:=h
 cases rx
 cases ry
 obtain ⟨its,r1,p1,_⟩:=I.tuple ha
 obtain ⟨its2,r2,p2,_⟩:=I.tuple hb
 refine HT.MY p1 p2 (fun z=>hx (r1.nil_iff.mp z)) (fun z=>⟨.ref a,H,I,rfl,q1 (r2.nil_iff.mp z)⟩) (fun z=>?_) (by rw [<- r1.length,<- r2.length];exact hz)
 refine ⟨.ref s.heap.objs.size,_,I.laid (t':=s.toks) (o:=.tup (xs++ys)) (fun b ob q=>Heap.get?_push_of_some _ q) (Nat.le_refl _) ?_,rfl,q2 (fun w=>z (r2.nil_iff.mpr w)) _ (I.hok.fresh (Nat.le_refl _))⟩
 exact ⟨by rw [List.length_append];exact hz,_,r1.append r2,iS.new _ _⟩
end
def vD (n:Nat) (i:Int):Option Nat:=if 0<=i then (if i < n then some i.toNat else none) else if -(n:Int)<=i then some (i + n).toNat else none
def eL {α:Type} (xs:List α) (i:Int):Option α:=(vD xs.length i).bind fun j=>xs[j]?
theorem DT {n:Nat} {i:Int} {j:Nat} (h:vD n i=some j):seqIndex? i n=some j/\j < n/\-(n:Int)<=i/\i < n:=by
 unfold vD at h
 by_cases h0:0<=i
 ·rw [if_pos h0] at h
  by_cases h1:i < n
  ·rw [if_pos h1] at h
   have e:i.toNat=j:=Option.some.inj h
   exact ⟨by rw [seqIndex_of h0 h1,e],by omega,by omega,h1⟩
  ·rw [if_neg h1] at h;cases h
 ·rw [if_neg h0] at h
  by_cases h1:-(n:Int)<=i
  ·rw [if_pos h1] at h
   have e:(i + n).toNat=j:=Option.some.inj h
   exact ⟨by rw [seqIndex_neg (by omega) h1,e],by omega,h1,by omega⟩
  ·rw [if_neg h1] at h;cases h
theorem Al {α:Type} {xs:List α} {i:Int} {v:α} (h:eL xs i=some v):∃ j,seqIndex? i xs.length=some j/\xs[j]?=some v/\j < xs.length/\-(xs.length:Int)<=i/\i < xs.length:=by
 unfold eL at h
 cases e:vD xs.length i with
 | none=>rw [e] at h;cases h
 | some j =>
  rw [e] at h
  obtain ⟨h1,h2,h3,h4⟩:=DT e
  exact ⟨j,h1,h,h2,h3,h4⟩
theorem iE {α:Type} {xs:List α} {j:Nat} {v:α} (h:xs[j]?=some v):eL xs (j:Int)=some v:=by
 have hj:j < xs.length:=(List.getElem?_eq_some_iff.mp h).1
 have e:vD xs.length (j:Int)=some j:=by
  unfold vD
  rw [if_pos (by omega),if_pos (by omega)];simp
 unfold eL;rw [e];exact h
def Ep (b:Expr):Prop:=∀ o i,subscripted b false o i=operate [o,i] (getItem o i)
def zT (X:Cx) (r:R2):Prop :=
 ∀ (value slice:Expr) (pins:List (Addr × Obj)) (s:Shared) (σ:St) (H:Hp) (x y:V) (v u:Value) (Q:VK),Inv X pins σ H s->RelV x v->RelV y u->r x y H Q ->
  subscripted slice false v u=operate [v,u] (getItem v u)->wpAny (model X.prog X.w) X.A (subscriptTail value slice v u) (EP X pins σ Q) X.xe s
def QP (X:Cx) (id:String) (r:V->List V->Hp->VK->Prop):Prop :=
 ∀ (pins:List (Addr × Obj)) (s:Shared) (σ:St) (H:Hp) (x:V) (xs:List V) (v:Value) (us:List Value) (Q:VK),Inv X pins σ H s->RelV x v->Vals xs us->r x xs H Q ->
  wpAny (model X.prog X.w) X.A (call (.builtin id) (v :: us)) (EP X pins σ Q) X.xe s
section
variable {X:Cx} {a b:Expr} {ta tb:TE} {pos:Pos}
theorem zT.or {r r':R2} (h:zT X r) (h':zT X r'):zT X (fun x y H Q=>r x y H Q\/r' x y H Q):=by
 intro value slice pins s σ H x y v u Q I rx ry q hs
 rcases q with q | q
 ·exact h value slice pins s σ H x y v u Q I rx ry q hs
 ·exact h' value slice pins s σ H x y v u Q I rx ry q hs
theorem Qc {r:R2} (hr:zT X r) (ha:PE X a ta) (hb:PE X b tb) (hs:Ep b):PE X (.Subscript a b pos) (Ed r ta tb):=by
 intro pins s σ H Q I h
 exact Subscript_ (KQ ha hb I h fun v u s2 x y H2 I2 rx ry q=>hr a b pins s2 σ H2 x y v u Q I2 rx ry q (hs _ _))
def OL (K:PySem.W.Frag):R2:=fun x y H Q=>∃ p xs i v,x=.ref p/\y=.int i/\dY K H p xs/\eL xs i=some v/\Q v H
def P5 (K:PySem.W.Frag):R2:=fun x y H Q=>∃ p xs i v,x=.ref p/\y=.int i/\eW K H p xs/\eL xs i=some v/\Q v H
def OY:R2:=fun x y H Q=>∃ z i c,x=.str z/\y=.int i/\z.length<=sizeLine/\eL z.cps.toList i=some c/\Q (.str ⟨#[c]⟩) H
theorem M9:zT X (OL X.K):=by
 intro value slice pins s σ H x y v u Q I rx ry h hs
 obtain ⟨p,xs,i,z,rfl,rfl,hq,he,q⟩:=h
 cases rx
 obtain ⟨t,rfl⟩:=ry
 obtain ⟨its,r,pl,hz⟩:=I.list hq
 obtain ⟨j,h1,h2,h3,h4,h5⟩:=Al he
 obtain ⟨w,ew,rw'⟩:=r.get h2
 have hl:=r.length
 have hn:=r0
 have fin:EP X pins σ Q w s:=⟨z,H,I,rw',q⟩
 by_cases h0:0<=i
 ·have hj:i.toNat=j:=by
   rw [seqIndex_of h0 h5] at h1
   exact Option.some.inj h1
  exact item_listR pl.isList h0 (by omega) (by rw [hj];simpa using ew) fin hs
 ·have hj:(i + (its.toArray.size:Int)).toNat=j:=by
   rw [seqIndex_neg (by omega) h4] at h1
   rw [List.size_toArray,<- hl]
   exact Option.some.inj h1
  exact subscriptTail_builtinR (x:=w) pl.isList.typeIs slot_list_getitem.lookup
   (wpAny_getItem_list_neg (Q:=fun r s'=>r=w/\EP X pins σ Q r s') pl.isList (by omega) (by rw [List.size_toArray] <;> omega) (by omega) (by rw [hj];simpa using ew) ⟨rfl,fin⟩) hs
theorem OW:zT X (P5 X.K):=by
 intro value slice pins s σ H x y v u Q I rx ry h hs
 obtain ⟨p,xs,i,z,rfl,rfl,hq,he,q⟩:=h
 cases rx
 obtain ⟨t,rfl⟩:=ry
 obtain ⟨its,r,pl,hz⟩:=I.tuple hq
 obtain ⟨j,h1,h2,h3,h4,h5⟩:=Al he
 obtain ⟨w,ew,rw'⟩:=r.get h2
 have hl:=r.length
 have hn:=r0
 have fin:EP X pins σ Q w s:=⟨z,H,I,rw',q⟩
 exact subscriptTail_builtinR (x:=w) pl.typeIs slot_tuple_getitem.lookup
  (getItem_tuple (j:=j) (Q:=fun r s'=>r=w/\EP X pins σ Q r s') pl (by omega) (by omega) (by rw [List.size_toArray,<- hl];exact h1) (by simpa using ew) ⟨rfl,fin⟩) hs
theorem Oh:zT X OY:=by
 intro value slice pins s σ H x y v u Q I rx ry h hs
 obtain ⟨z,i,c,rfl,rfl,hz,he,q⟩:=h
 obtain ⟨t,rfl⟩:=rx
 obtain ⟨t',rfl⟩:=ry
 obtain ⟨j,h1,h2,h3,h4,h5⟩:=Al he
 have hl:z.cps.toList.length=z.length:=by simp [Str.length]
 rw [hl] at h1 h4 h5
 have hn:=r0
 exact tail_any (typeIs_str s z t) slot_str_getitem.lookup (getItem_str (c:=c) (by
  have e1:decide (i < -(2 ^ 63:Int))=false:=decide_eq_false (by omega)
  have e2:decide (i ≥ 2 ^ 63)=false:=decide_eq_false (by omega)
  rw [e1,e2,Bool.or_false]) (by rw [h1];simpa using h2) ⟨.str ⟨#[c]⟩,H,I.tok _,⟨_,rfl⟩,q⟩) hs
def QV (K:PySem.W.Frag):R2:=fun x y H Q=>OL K x y H Q\/P5 K x y H Q\/OY x y H Q
theorem PY:zT X (QV X.K):=M9.or (OW.or Oh)
theorem Gg (its:List Value) (n j:Nat) (u:Value):Obj.mapSeq (·.setIfInBounds j u) { cls:=.type "list",data:=.seq its.toArray n }={ cls:=.type "list",data:=.seq (its.set j u).toArray n }:=by
 simp [Obj.mapSeq]
theorem Inv.lst {pins:List (Addr × Obj)} {σ:St} {H:Hp} {s:Shared} {p:Addr} {xs:List V} (I:Inv X pins σ H s) (h:H p=some (.lst xs)) :
  ∃ (its:List Value) (n:Nat),Vals xs its/\s.heap.get? p=some { cls:=.type "list",data:=.seq its.toArray n }/\xs.length<=sizeLine:=by
 obtain ⟨z,its,n,r,e⟩:=I.hok p _ h
 exact ⟨its,n,r,e,z⟩
theorem Inv.lstUpd {pins:List (Addr × Obj)} {σ:St} {H:Hp} {s:Shared} {p:Addr} {xs ys:List V} {its its':List Value} {n n':Nat} {f:Obj->Obj} (I:Inv X pins σ H s) (h:H p=some (.lst xs))
  (ho:s.heap.get? p=some { cls:=.type "list",data:=.seq its.toArray n }) (hf:f { cls:=.type "list",data:=.seq its.toArray n }={ cls:=.type "list",data:=.seq its'.toArray n' }) (r:Vals ys its') (hz:ys.length<=sizeLine) (t:Nat) :
  Inv X pins σ (upd H p (.lst ys)) { s with heap:=s.heap.update p f,toks:=t }:=by
 have e:(s.heap.update p f).get? p=some { cls:=.type "list",data:=.seq its'.toArray n' }:=by
  rw [Heap.get?_update_self f ho (by rw [hf] <;> rfl),hf]
 refine I.write (x:=p) (e:=p) (by rw [h];trivial) (.inl rfl) (fun b u hb q=>(Heap.get?_update_other _ _ (Ne.symm hb)).trans q) ⟨_,e⟩ ?_
 exact ⟨hz,its',n',r,e⟩
def QN:V->V->V->Hp->(Hp->Prop)->Prop:=fun o i v H Q=>∃ p xs k j,o=.ref p/\i=.int k/\H p=some (.lst xs)/\vD xs.length k=some j/\Q (upd H p (.lst (xs.set j v)))
theorem set_list:N7 X QN:=by
 intro pins s σ H o i v ov iv u Q I ro ri rv h
 obtain ⟨p,xs,k,j,rfl,rfl,hp,hj,q⟩:=h
 cases ro
 obtain ⟨t,rfl⟩:=ri
 obtain ⟨its,n,r,ho,hz⟩:=I.lst hp
 obtain ⟨h1,h2,h3,h4⟩:=DT hj
 have hl:=r.length
 have hn:=r0
 have I':Inv X pins σ (upd H p (.lst (xs.set j v))) { s with heap:=s.heap.update p (Obj.mapSeq (·.setIfInBounds j u)) } :=
  I.lstUpd hp ho (Gg its n j u) (r.set rv j) (by rw [List.length_set];exact hz) s.toks
 by_cases h0:0<=k
 ·have hk:k.toNat=j:=by
   rw [seqIndex_of h0 h4] at h1
   exact Option.some.inj h1
  exact PySem.W.ki_setAt ho h0 (by omega) (by rw [List.size_toArray,<- hl];exact h4) (by rw [hk];exact ⟨_,I',q⟩)
 ·have hk:(k + (its.toArray.size:Int)).toNat=j:=by
   rw [seqIndex_neg (by omega) h3] at h1
   rw [List.size_toArray,<- hl]
   exact Option.some.inj h1
  exact PySem.W.ki_setBack ho (by omega) (by rw [List.size_toArray,<- hl];exact h3) (by omega) (by rw [hk];exact ⟨_,I',q⟩)
theorem Cd (lo hi:Option Int) (n:Nat):(sliceBounds lo hi none n).1=((HT.bP n 0 lo:Nat):Int)/\(sliceBounds lo hi none n).2.1=((HT.bP n n hi:Nat):Int)/\(sliceBounds lo hi none n).2.2=1:=by
 refine ⟨?_,?_,rfl⟩
 ·cases lo with
  | none=>simp [sliceBounds,HT.bP]
  | some i =>
   simp only [sliceBounds,HT.bP,Option.getD_none,show (1:Int) > 0 by decide,if_true]
   by_cases h:i < 0
   ·simp only [h,if_true] <;> omega
   ·simp only [h,if_false] <;> omega
 ·cases hi with
  | none=>simp [sliceBounds,HT.bP]
  | some i =>
   simp only [sliceBounds,HT.bP,Option.getD_none,show (1:Int) > 0 by decide,if_true]
   by_cases h:i < 0
   ·simp only [h,if_true] <;> omega
   ·simp only [h,if_false] <;> omega
theorem Br (its:List Value) (lo hi:Option Int):slicePick its.toArray lo hi none=((its.drop (HT.bP its.length 0 lo)).take (HT.bP its.length its.length hi - HT.bP its.length 0 lo)).toArray:=by
 obtain ⟨h1,h2,h3⟩:=Cd lo hi its.toArray.size
 unfold slicePick
 rw [h1,h2,h3]
 simp only [sliceRange_one,pick_run,List.size_toArray] <;> rfl
def Rb (K:PySem.W.Frag):V->Option Int->Option Int->Hp->VK->Prop:=fun x lo hi H Q=>∃ a xs,x=.ref a/\dY K H a xs/\∀ p,H p=none->Q (.ref p) (upd H p (.lst (qV xs lo hi)))
theorem Ni:wR X (Rb X.K):=by
 intro pins s σ H x v vl vu lo hi sl Q I rx hs pl pu h
 obtain ⟨a,xs,rfl,hx,q⟩:=h
 cases rx
 obtain ⟨its,r,ht,hz⟩:=I.list hx
 have hlen:=r.length
 refine ⟨"list",_,slot_list_getitem.lookup,ht.isList.typeIs,?_⟩
 refine wpAny_getItem_list_slice ht.isList hs pl pu .none (by simp) ?_ (by rw [List.size_toArray] <;> omega)
 rw [Br,<- hlen]
 refine ⟨.ref s.heap.objs.size,_,I.laid (t':=s.toks) (o:=.lst (qV xs lo hi)) (fun b ob q=>Heap.get?_push_of_some _ q) (Nat.le_refl _) ?_,rfl,q _ (I.hok.fresh (Nat.le_refl _))⟩
 exact ⟨Nat.le_trans (wO xs lo hi) hz,_,0,(r.drop (HT.bP xs.length 0 lo)).take (HT.bP xs.length xs.length hi - HT.bP xs.length 0 lo),Heap.get?_push_size _ rfl⟩
def kK:V->Bool
 | .non=>true
 | .bl _=>true
 | .int _=>true
 | .str _=>true
 | _=>false
def qE:V->V->Bool
 | .non,.non=>true
 | .bl a,.bl b=>a == b
 | .bl a,.int b=>(if a then 1 else 0) == b
 | .int a,.bl b=>a == (if b then 1 else 0)
 | .int a,.int b=>a == b
 | .str a,.str b=>a == b
 | _,_=>false
theorem OE {A:Around} {s:Shared} {y x:V} {u v:Value} (ry:RelV y u) (rx:RelV x v) (fy:kK y=true) (fx:kK x=true):SeqAt.EqAt A s u v (qE y x):=by
 cases y with
 | non =>
  cases ry
  cases x with
  | non=>cases rx;exact SeqAt.EqAt.same _
  | bl b=>cases rx;exact SeqAt.EqAt.none_bool b
  | int b=>obtain ⟨t,rfl⟩:=rx;exact SeqAt.EqAt.none_int b t
  | str b=>obtain ⟨t,rfl⟩:=rx;exact SeqAt.EqAt.none_str b t
  | _=>exact absurd (show false=true from fx) Bool.false_ne_true
 | bl a =>
  cases ry
  cases x with
  | non=>cases rx;exact SeqAt.EqAt.bool_none a
  | bl b=>cases rx;exact SeqAt.EqAt.bool_bool a b
  | int b=>obtain ⟨t,rfl⟩:=rx;exact SeqAt.EqAt.bool_int a b t
  | str b=>obtain ⟨t,rfl⟩:=rx;exact SeqAt.EqAt.bool_str a b t
  | _=>exact absurd (show false=true from fx) Bool.false_ne_true
 | int a =>
  obtain ⟨t',rfl⟩:=ry
  cases x with
  | non=>cases rx;exact SeqAt.EqAt.int_none a t'
  | bl b=>cases rx;exact SeqAt.EqAt.int_bool a t' b
  | int b=>obtain ⟨t,rfl⟩:=rx;exact SeqAt.EqAt.int_int a t' b t
  | str b=>obtain ⟨t,rfl⟩:=rx;exact SeqAt.EqAt.int_str a t' b t
  | _=>exact absurd (show false=true from fx) Bool.false_ne_true
 | str a =>
  obtain ⟨t',rfl⟩:=ry
  cases x with
  | non=>cases rx;exact SeqAt.EqAt.str_none a t'
  | bl b=>cases rx;exact SeqAt.EqAt.str_bool a t' b
  | int b=>obtain ⟨t,rfl⟩:=rx;exact SeqAt.EqAt.str_int a t' b t
  | str b=>obtain ⟨t,rfl⟩:=rx;exact SeqAt.EqAt.str_str a t' b t
  | _=>exact absurd (show false=true from fx) Bool.false_ne_true
 | _=>exact absurd (show false=true from fy) Bool.false_ne_true
def nJ (x:V) (u:Value):Bool:=match u with
 | .none=>qE .non x
 | .bool b=>qE (.bl b) x
 | .int i _=>qE (.int i) x
 | .str z _=>qE (.str z) x
 | _=>false
theorem BM {x y:V} {u:Value} (r:RelV y u) (f:kK y=true):nJ x u=qE y x:=by
 cases y with
 | non=>cases r;rfl
 | bl b=>cases r;rfl
 | int i=>obtain ⟨t,rfl⟩:=r;rfl
 | str z=>obtain ⟨t,rfl⟩:=r;rfl
 | _=>exact absurd (show false=true from f) Bool.false_ne_true
theorem rZ {x:V}:∀ {xs:List V} {us:List Value},Vals xs us->xs.all kK=true->us.any (nJ x)=xs.any fun y=>qE y x
 | _,_,.nil,_=>rfl
 | y :: xs,u :: us,.cons r t,f=>by
  rw [List.all_cons,Bool.and_eq_true] at f
  rw [List.any_cons,List.any_cons,BM r f.1,rZ t f.2]
theorem mH {A:Around} {s:Shared} {x:V} {v:Value} (rx:RelV x v) (fx:kK x=true):∀ {xs:List V} {us:List Value},Vals xs us->xs.all kK=true->∀ u∈us,SeqAt.EqAt A s u v (nJ x u)
 | _,_,.nil,_=>fun u hu=>by cases hu
 | y :: xs,u :: us,.cons r t,f=>fun u' hu=>by
  rw [List.all_cons,Bool.and_eq_true] at f
  rcases List.mem_cons.mp hu with rfl | hu
  ·rw [BM r f.1];exact OE r rx f.1 fx
  ·exact mH rx fx t f.2 u' hu
def LA (x:V) (xs:List V):Bool:=xs.any fun y=>qE y x
def OP (K:PySem.W.Frag) (neg:Bool):R2:=fun x y H Q=>∃ p xs,y=.ref p/\(dY K H p xs\/eW K H p xs)/\kK x=true/\xs.all kK=true/\Q (.bl (if neg then !LA x xs else LA x xs)) H
theorem HV:dD X (compareOp .In) (OP X.K false):=by
 intro pins s σ H x y v u Q I rx ry h
 obtain ⟨p,xs,rfl,hq,fx,fs,q⟩:=h
 cases ry
 rcases hq with hq | hq
 ·obtain ⟨its,r,pl,hz⟩:=I.list hq
  refine SeqAt.in_listAt (nJ x) pl.isList (fun w hw=>mH rx fx r fs w (by simpa using hw)) ⟨.bl _,H,I,rfl,?_⟩
  rw [show its.toArray.any (nJ x)=its.any (nJ x) by simp,rZ r fs]
  exact q
 ·obtain ⟨its,r,pl,hz⟩:=I.tuple hq
  refine SeqAt.in_tupleAt (nJ x) pl (fun w hw=>mH rx fx r fs w (by simpa using hw)) ⟨.bl _,H,I,rfl,?_⟩
  rw [show its.toArray.any (nJ x)=its.any (nJ x) by simp,rZ r fs]
  exact q
theorem De:dD X (compareOp .NotIn) (OP X.K true):=by
 intro pins s σ H x y v u Q I rx ry h
 obtain ⟨p,xs,rfl,hq,fx,fs,q⟩:=h
 cases ry
 rcases hq with hq | hq
 ·obtain ⟨its,r,pl,hz⟩:=I.list hq
  refine SeqAt.notIn_listAt (nJ x) pl.isList (fun w hw=>mH rx fx r fs w (by simpa using hw)) ⟨.bl _,H,I,rfl,?_⟩
  rw [show its.toArray.any (nJ x)=its.any (nJ x) by simp,rZ r fs]
  exact q
 ·obtain ⟨its,r,pl,hz⟩:=I.tuple hq
  refine SeqAt.notIn_tupleAt (nJ x) pl (fun w hw=>mH rx fx r fs w (by simpa using hw)) ⟨.bl _,H,I,rfl,?_⟩
  rw [show its.toArray.any (nJ x)=its.any (nJ x) by simp,rZ r fs]
  exact q
theorem BX:lF X (.type "list") (fun xs H Q=>∃ p ys,xs=[.ref p]/\(dY X.K H p ys\/eW X.K H p ys)/\∀ l,H l=none->Q (.ref l) (upd H l (.lst ys))):=by
 intro pins s σ H xs us Q I r h
 obtain ⟨p,ys,rfl,hq,q⟩:=h
 obtain ⟨u,rfl,rx⟩:=vals1 r
 cases rx
 have fin:∀ (its:List Value),Vals ys its->ys.length<=sizeLine->∀ (h':Heap) (c':Nat),(∀ b o',s.heap.get? b=some o'->h'.get? b=some o') ->
   h'.get? s.heap.objs.size=some { cls:=.type "list",dict:=none,data:=.seq its.toArray c',slots:=#[] }->EP X pins σ Q (.ref s.heap.objs.size) { s with heap:=h' }:=fun its r' hz h' c' kp e =>
  ⟨.ref s.heap.objs.size,_,I.laid (t':=s.toks) kp (Nat.le_refl _) (show cK X.prog X.w _ h' _ (.lst ys) from ⟨hz,its,c',r',e⟩),rfl,q _ (I.hok.fresh (Nat.le_refl _))⟩
 rcases hq with hq | hq
 ·obtain ⟨its,r',pl,hz⟩:=I.list hq
  have hlen:=r'.length
  obtain ⟨o,ho,hc,n,hd⟩:=pl.isList
  exact call_list_seq p (.inl rfl) ho hc hd (fun h' c' kp e=>fin its r' hz h' c' kp e) (by simp only [List.size_toArray] <;> omega)
 ·obtain ⟨its,r',pl,hz⟩:=I.tuple hq
  have hlen:=r'.length
  obtain ⟨o,ho,hc,n,hd⟩:=pl
  exact call_list_seq p (.inr rfl) ho hc hd (fun h' c' kp e=>fin its r' hz h' c' kp e) (by simp only [List.size_toArray] <;> omega)
theorem Bx:lF X (.type "tuple") (fun xs H Q=>∃ p ys,xs=[.ref p]/\((dY X.K H p ys/\∀ l,H l=none->Q (.ref l) (upd H l (.tup ys)))\/(eW X.K H p ys/\Q (.ref p) H))):=by
 intro pins s σ H xs us Q I r h
 obtain ⟨p,ys,rfl,h⟩:=h
 obtain ⟨u,rfl,rx⟩:=vals1 r
 cases rx
 rcases h with ⟨hq,q⟩ | ⟨hq,q⟩
 ·obtain ⟨its,r',pl,hz⟩:=I.list hq
  have hlen:=r'.length
  refine call_tuple_list pl.isList (fun h' kp=>?_) (by simp only [List.size_toArray] <;> omega)
  have I1:Inv X pins σ H { s with heap:=h' }:=I.kept (t':=s.toks) kp
  have I2:Inv X pins σ (upd H h'.objs.size (.tup ys)) { s with heap:=h'.push { cls:=.type "tuple",data:=.seq its.toArray } } :=
   I1.laid (t':=s.toks) (fun b o e=>Heap.get?_push_of_some _ e) (Nat.le_refl _) (show cK X.prog X.w _ _ _ (.tup ys) from ⟨hz,its,r',iS.new _ _⟩)
  exact ⟨.ref h'.objs.size,_,I2,rfl,q _ (I1.hok.fresh (Nat.le_refl _))⟩
 ·obtain ⟨its,r',pl,hz⟩:=I.tuple hq
  exact call_tuple_same pl ⟨.ref p,H,I,rfl,q⟩
def NM (K:PySem.W.Frag) (T:String) (x:V) (H:Hp):Prop:=match x with
 | .str _=>T="str"
 | .int _=>T="int"
 | .ref p=>(T="list"/\∃ xs,dY K H p xs)\/(T="tuple"/\∃ o,K.lookup p=some o/\o.cls=.type "tuple"/\o.dict=none) \/
   (T="dict"/\((∃ kvs,H p=some (.dK kvs))\/∃ kvs,H p=some (.dT kvs)))\/(T="set"/\∃ S n,H p=some (.set S n))
 | _=>False
theorem PU {pins:List (Addr × Obj)} {σ:St} {H:Hp} {s:Shared} {T:String} {x:V} {v:Value} (I:Inv X pins σ H s) (r:RelV x v) (ty:NM X.K T x H) :
  s.TypeIs v T/\∀ a,v=.ref a->∃ ob,s.heap.get? a=some ob/\ob.dict=none:=by
 cases x with
 | str z =>
  obtain ⟨t,rfl⟩:=r
  cases (show T="str" from ty)
  exact ⟨typeIs_str s z t,fun _ e=>nomatch e⟩
 | int i =>
  obtain ⟨t,rfl⟩:=r
  cases (show T="int" from ty)
  exact ⟨typeIs_int s i t,fun _ e=>nomatch e⟩
 | ref p =>
  cases r
  rcases ty with ⟨rfl,xs,hq⟩ | ⟨rfl,o,hk,hc,hd⟩ | ⟨rfl,hk⟩ | ⟨rfl,S,n,hk⟩
  ·obtain ⟨its,_,pl,_⟩:=I.list hq
   refine ⟨pl.isList.typeIs,fun a e=>?_⟩
   cases e
   obtain ⟨o,n,e,c,hd,_⟩:=pl
   exact ⟨o,e,hd⟩
  ·refine ⟨⟨o,I.kIn p o hk,hc⟩,fun a e=>?_⟩
   cases e
   exact ⟨o,I.kIn _ o hk,hd⟩
  ·have z:∃ o,s.heap.get? p=some o/\o.ExactDict:=by
    rcases hk with ⟨kvs,hk⟩ | ⟨kvs,hk⟩
    ·obtain ⟨_,_,_,_,o,_,_,e,ex,_⟩:=I.hok p _ hk
     exact ⟨o,e,ex⟩
    ·obtain ⟨_,_,_,_,o,_,_,e,ex,_⟩:=I.hok p _ hk
     exact ⟨o,e,ex⟩
   obtain ⟨o,e,ex⟩:=z
   refine ⟨⟨o,e,ex.1⟩,fun a e2=>?_⟩
   cases e2
   exact ⟨o,e,ex.2.1⟩
  ·obtain ⟨o,_,_,_,e,ex,_⟩:=I.hok p _ hk
   refine ⟨⟨o,e,ex.1⟩,fun a e2=>?_⟩
   cases e2
   exact ⟨o,e,ex.2.1⟩
 | _=>exact False.elim ty
def QX (K:PySem.W.Frag) (T:String) (r:V->List V->Hp->VK->Prop) (to:TE) (t:TA):TE:=fun σ H Q=>to σ H fun x H1=>NM K T x H1/\t σ H1 fun xs H2=>r x xs H2 Q
variable {o e:Expr} {es:List Expr} {to:TE} {t:TA} {name:Str} {apos cpos:Pos} {T id:String} {r:V->List V->Hp->VK->Prop}
theorem K8 (pa:PlainAttrs T) (slot:Slot T name id) (hty:typeOf (.builtin id)=pure (.type "method_descriptor")) (hm:QP X id r) (ho:PE X o to) (ha:PA X (e :: es) t)
  (hbase:attributeBase o name X.env (eval o X.env)=eval o X.env:=by rfl)
  (hfew:((backTo cpos (starEach (e :: es) X.env)).all (fun x=>!x.1) && (backToKw cpos (keywordEach [] X.env)).all (fun x=>x.1.isSome)
   && decide ((e :: es).length + ([]:List Keyword).length + (if ([]:List Keyword).isEmpty then 0 else 1) < 30))=true:=by rfl)
  (hline:(apos.endLine == cpos.line)=true:=by rfl) (hs:starEach (e :: es) X.env=(false,eval e X.env) :: starEach es X.env:=by rfl) (hplain:(backTo cpos (starEach es X.env)).any (·.1)=false:=by rfl) :
  PE X (.Call (.Attribute o name apos) (e :: es) [] cpos) (QX X.K T r to t):=by
 intro pins s σ H Q I h
 refine wpAny_Call_method_late hbase hfew hline rfl (bE (ho pins s σ H _ I h) fun v s1 ⟨x,H1,I1,r1,ty,q1⟩=>?_)
 obtain ⟨h1,h2⟩:=PU I1 r1 ty
 refine ⟨T,id,pa,slot,hty,h1,h2,?_⟩
 have hA:=ha cpos pins s1 σ H1 _ I1 q1
 rw [hs] at hA ⊢
 refine Calls.callWith_builtin (by show (false || (backTo cpos (starEach es X.env)).any (·.1))=false;rw [hplain] <;> rfl) (Calls.evalArgs_plain ?_)
 exact bE hA fun us s2 ⟨vs,H2,I2,r2,q2⟩=>hm pins s2 σ H2 x vs v us Q I2 r1 r2 q2
end
def PD (X:Cx) (id:String) (r:V->List V->Hp->VK->Prop):Prop :=
 ∀ (pins:List (Addr × Obj)) (s:Shared) (σ:St) (H:Hp) (x:V) (xs:List V) (v:Value) (us:List Value) (Q:VK),Inv X pins σ H s->RelV x v->Vals xs us->r x xs H Q ->
  wpAny (model X.prog X.w) X.A (call (.builtin id) (v :: us)) (EP X pins σ Q) X.xe s
theorem Vals.one:∀ {x:V} {us:List Value},Vals [x] us->∃ u,us=[u]/\RelV x u
 | _,_,.cons r .nil=>⟨_,rfl,r⟩
theorem Vals.rep {xs:List V} {us:List Value} (h:Vals xs us):∀ k:Nat,Vals (List.replicate k xs).flatten (List.replicate k us).flatten
 | 0=>.nil
 | k + 1=>by
  rw [List.replicate_succ,List.replicate_succ,List.flatten_cons,List.flatten_cons]
  exact Vals.append h (Vals.rep h k)
theorem Qh {α:Type} (l:List α):l.eraseIdx (l.length - 1)=l.dropLast:=by
 induction l with
 | nil=>rfl
 | cons a r ih =>
  cases r with
  | nil=>rfl
  | cons b r =>
   have e:(a :: b :: r).length - 1=((b :: r).length - 1) + 1:=by
    have h1:(a :: b :: r).length=r.length + 2:=rfl
    have h2:(b :: r).length=r.length + 1:=rfl
    omega
   rw [e,List.eraseIdx_cons_succ,ih]
   all_goals rfl
theorem foldl_rep (its:List Value):∀ (k:Nat) (acc:List Value),
  List.foldl (fun x1 x2=>x1++x2) acc.toArray (List.replicate k its.toArray)=(acc++(List.replicate k its).flatten).toArray
 | 0,acc=>by simp
 | k + 1,acc=>by
  have e:acc.toArray++its.toArray=(acc++its).toArray:=by simp
  have e2:(acc++its)++(List.replicate k its).flatten=acc++(List.replicate (k + 1) its).flatten:=by
   rw [List.replicate_succ,List.flatten_cons,List.append_assoc]
  rw [<- e2,<- foldl_rep its k (acc++its),<- e,List.replicate_succ,List.foldl_cons]
section
variable {X:Cx} {pins:List (Addr × Obj)} {σ:St} {H:Hp} {s:Shared} {l b:Addr} {xs ys zs:List V}
theorem Inv.lset {its its':List Value} {n:Nat} {f:Array Value->Array Value} {t':Nat} (I:Inv X pins σ H s) (hH:H l=some (.lst xs))
  (e:s.heap.get? l=some { cls:=.type "list",data:=.seq its.toArray n }) (hf:f its.toArray=its'.toArray) (hv:Vals ys its') (hz:ys.length<=sizeLine) :
  Inv X pins σ (upd H l (.lst ys)) { s with heap:=s.heap.update l (Obj.mapSeq f),toks:=t' }:=by
 have q:=PySem.IsL.update e f
 rw [hf] at q
 refine I.write (x:=l) (e:=l) (by rw [hH];exact trivial) (.inl rfl) (fun b' u hb hu=>(Heap.get?_update_other s.heap (Obj.mapSeq f) (Ne.symm hb)).trans hu) ⟨_,q⟩ ?_
 exact ⟨hz,its',_,hv,q⟩
theorem Inv.lnew {its:List Value} {t':Nat} (I:Inv X pins σ H s) (hv:Vals ys its) (hz:ys.length<=sizeLine) :
  Inv X pins σ (upd H s.heap.objs.size (.lst ys)) { s with heap:=s.heap.push { cls:=.type "list",data:=.seq its.toArray },toks:=t' } :=
 I.laid (fun _ _ q=>Heap.get?_push_of_some _ q) (Nat.le_refl _) ⟨hz,its,0,hv,Heap.get?_push_size _ rfl⟩
theorem Inv.fresh (I:Inv X pins σ H s):H s.heap.objs.size=none:=I.hok.fresh (Nat.le_refl _)
theorem Inv.lstM (I:Inv X pins σ H s) (hH:H l=some (.lst xs)):xs.length<=sizeLine/\∃ (its:List Value) (n:Nat),Vals xs its/\xs.length=its.length/\s.heap.get? l=some { cls:=.type "list",data:=.seq its.toArray n }:=by
 obtain ⟨z,its,n,r,e⟩:=I.hok l _ hH
 exact ⟨z,its,n,r,r.length,e⟩
theorem xG {n:Nat} (h:n<=sizeLine):Builtin.List.listTooLong n=false:=by
 unfold Builtin.List.listTooLong
 exact decide_eq_false (by omega)
end
section
variable {X:Cx}
def D7:V->List V->Hp->VK->Prop:=fun x vs H Q=>∃ l xs y,x=.ref l/\vs=[y]/\H l=some (.lst xs)/\xs.length < sizeLine/\Q .non (upd H l (.lst (xs++[y])))
theorem u9:PD X "list.append" D7:=by
 intro pins s σ H x vs v us Q I rx rv h
 obtain ⟨l,xs,y,rfl,rfl,hH,hz,q⟩:=h
 cases rx
 obtain ⟨u,rfl,ru⟩:=rv.one
 obtain ⟨z,its,n,r,hl,e⟩:=I.lstM hH
 refine call_meets F.slot_list_append ⟨_,e,rfl⟩ F.entry_list_append (F.args_list_append_2 _ _) (PySem.list_append l its.toArray n u (by rw [List.size_toArray];omega)) ⟨e,?_⟩
 refine ⟨.non,_,I.lset (its':=its++[u]) hH e (by simp) (r.append (.cons ru .nil)) ?_,rfl,q⟩
 rw [List.length_append,List.length_singleton]
 omega
def PL:R2:=fun x y H Q=>∃ l k xs,x=.ref l/\y=.int k/\H l=some (.lst xs)/\-(2 ^ 63)<=k/\k < 2 ^ 63/\xs.length * k.toNat<=sizeLine /\
 ∀ p,H p=none->Q (.ref p) (upd H p (.lst (List.replicate k.toNat xs).flatten))
theorem len_rep {α:Type} (xs:List α) (k:Nat):(List.replicate k xs).flatten.length=k * xs.length:=by
 induction k with
 | zero=>simp
 | succ k ih=>rw [List.replicate_succ,List.flatten_cons,List.length_append,ih,Nat.succ_mul,Nat.add_comm]
theorem OK:dD X (binaryOp .Mult) PL:=by
 intro pins s σ H x y v u Q I rx ry h
 obtain ⟨l,k,xs,rfl,rfl,hH,h1,h2,hz,q⟩:=h
 cases rx
 obtain ⟨t,rfl⟩:=ry
 obtain ⟨z,its,n,r,hl,e⟩:=I.lstM hH
 have hlen:its.toArray.size * k.toNat<=sizeLine:=by rw [List.size_toArray,<- hl];exact hz
 have hcap:¬ its.toArray.size * k.toNat > (2 ^ 63 - 1) / 8:=by
  have:(sizeLine:Nat)<=(2 ^ 63 - 1) / 8:=by decide
  omega
 have hfit:¬ (!Builtin.List.listFitsIndex k)=true:=by
  rw [fitsIndex_both h1 h2]
  exact Bool.false_ne_true
 have hlong:¬ Builtin.List.listTooLong (its.toArray.size * k.toNat)=true:=by
  rw [xG hlen]
  exact Bool.false_ne_true
 have hnew:List.foldl (fun x1 x2=>x1++x2) #[] (List.replicate (if its.toArray.isEmpty=true then 0 else k.toNat) its.toArray)=(List.replicate k.toNat its).flatten.toArray:=by
  have f0:∀ m:Nat,List.foldl (fun x1 x2=>x1++x2) #[] (List.replicate m its.toArray)=(List.replicate m its).flatten.toArray:=fun m=>by
   have:=foldl_rep its m []
   rw [List.nil_append] at this
   exact this
  rw [f0]
  cases its with
  | nil=>simp
  | cons a r'=>rw [if_neg (by simp)]
 refine wpAny_binaryOp_repeat_ref (T:="list") (U:="int") (by decide) ⟨_,e,rfl⟩ (fun s'=>typeIs_int s' k t) noFill_list_mul F.fills_int_mul F.slot_int_rmul repeat_list F.slot_int_index.lookup
  (call_meets F.slot_int_rmul (typeIs_int s k t) F.entry_int_rmul (F.args_int_rmul_2 _ _) (int___rmul___int_list k t l its.toArray n)
   ⟨e,rfl,⟨_,e,rfl⟩,call_meets F.slot_list_mul ⟨_,e,rfl⟩ F.entry_list_mul (F.args_list_mul_2 _ _) (AutoListH.list___mul___list_int_3 l its.toArray n k t hfit hcap hlong) ⟨e,?_⟩⟩)
 rw [hnew]
 exact ⟨.ref _,_,I.lnew (t':=s.toks) (r.rep k.toNat) (by rw [len_rep,Nat.mul_comm];exact hz),rfl,q _ I.fresh⟩
end
section
variable {prog:Program} {w:World} {A:Around} {E:Value->Shared->Prop} {s:Shared}
end
section
variable {X:Cx}
end
end L2
namespace Att
open PySem PySem.W PySem.Calls PyProof.Rows
theorem zK {P:Params} {h:Heap}:∀ (ns:List Int) (vs:List Value),WellAll P h vs (ns.map WData.int)->IntsAre vs ns:=by
 intro ns
 induction ns with
 | nil =>
  intro vs w
  rw [List.map_nil] at w
  cases w
  exact .nil
 | cons n ns ih =>
  intro vs w
  rw [List.map_cons] at w
  cases w with
  | cons a b =>
   cases a
   exact .cons _ _ (ih _ b)
theorem IK {l:OpenLaw} {n:Nat} (hn:l.most=some n) {P:Params} {h:Heap} {args:List WData} {vals:List Value}
  (hpre:l.row.toRowW.claim.pre args=true) (hwl:WellAll P h vals args) :
  ∃ a vs ns,vals=[Value.ref a]/\args=[WData.list (ns.map WData.int)]/\h.get? a=some { cls:=.type "list",data:=.seq vs.toArray }/\IntsAre vs ns/\ns.length<=n:=by
 have hsh:WShape.hasAll [] args [.list .int]=true:=(pre_splitW hpre).1
 have hc:l.pre.holds [] { args:=args }=true:=(pre_splitW hpre).2
 obtain ⟨d,r,rfl,h1,h2⟩:=hasAllW_cons hsh
 obtain rfl:=hasAllW_nil h2
 obtain ⟨xs,rfl,h3⟩:=hasW_list h1
 obtain ⟨ns,rfl⟩:=items_int h3
 have hlen:ns.length<=n:=by
  unfold OpenLaw.pre at hc
  have h4:(WTm.not (.lt (.lit (.int (n:Int))) (.len (.arg 0)))).holds [] { args:=[.list (ns.map .int)] }=true:=by
   have h4:=(holds_andW hc).1
   rw [hn] at h4
   exact h4
  have h5:=condW_of h4 (w_not (w_lt w_lit (w_len_list (w_arg rfl))))
  rw [List.length_map] at h5
  refine Nat.le_of_not_lt fun q=>?_
  have q':(n:Int) < ((ns.length:Nat):Int):=by omega
  first
   | (rw [decide_eq_true q'] at h5;exact absurd h5 (by decide))
   | (simp at h5;omega)
 cases hwl with
 | cons w1 w2 =>
  cases w2
  cases w1 with
  | list ho hall=>exact ⟨_,_,ns,rfl,rfl,ho,zK ns _ hall,hlen⟩
theorem HC (l:OpenLaw) (args:List WData):l.row.toRowW.claim.post args (.bool true) args=true :=
 postW_of (r:=l.row.toRowW) (X:=(true == true))
  (show WShape.has [] (.bool true) .bool=true by first | rfl | decide | simp [WShape.has,WShape.arms,WShape.armsAll])
  (show (WTm.eq .res (.lit (.bool true))).value [] { args:=args,res:=some (.bool true),after:=args }=some (.bool (true == true)) from w_eq_bool (w_res rfl) w_lit) rfl
theorem attach_call {l:OpenLaw} {n:Nat} {q:Program} {loose:List Str} {XP:(Str->Option Value)->Heap->Prop} {YP:World->Heap->Prop} {d:DefRec}
  (hn:l.most=some n) (hdf:d.params.defaults=[])
  (call:∀ (w:World) (s₀ s₁:Shared) (mg mb:Str->Option Value) (fa:Addr) (o:Obj) (pm cd doc:Value) (a:Addr) (vs:List Value) (ns:List Int),
   Ground q loose [] XP w s₀ mg mb s₁.heap->YP w s₁.heap ->
   s₁.heap.get? fa=some o->o.data=.func (docDef d.name d.params d.body d.scope pm cd doc)->s₁.heap.CodeRec cd d.name->mg d.name=some (.ref fa) ->
   s₁.heap.get? a=some { cls:=.type "list",data:=.seq vs.toArray }->IntsAre vs ns->ns.length<=n->s₁.gens=#[] ->
   codeAny (model l.prog w) callerA (.call (.ref fa) ⟨[.ref a],[]⟩) (fun r s'=>r=.ok (.ret (.bool true))/\OldK s₁.heap s'.heap/\s'.os=s₁.os/\AllBare s'.gens) s₁) :
  WalkO q loose XP YP l.row.toRowW d [] (fun f vs=>PySem.call f vs):=by
 intro w s₀ s₁ mg mb G Y fa o pm cd doc dV kV ho hd hcd hD hmg hg args vals as hpre hlay hrd hwl hlo
 obtain rfl:dV=.none:=Dflts.none hD hdf
 obtain rfl:kV=.none:=Dflts.noKw hD
 obtain ⟨a,vs,ns,rfl,rfl,hobj,hints,hlen⟩:=IK hn hpre hwl
 refine enter_call (codeAny_mono (call w s₀ s₁ mg mb fa o pm cd doc a vs ns G Y ho (fd_plain hd) hcd hmg hobj hints hlen hg) fun r s' hq=>?_)
 obtain ⟨rfl,h2,h3,h4⟩:=hq
 exact ⟨.inl ⟨.bool true,.bool true,[],rfl,fun _=>rfl,.bool true,HC l _,fun _=>⟨List.Pairwise.nil,fun _ hm=>(nomatch hm)⟩⟩,h2,h3,h4⟩
section
variable {prog:Program} {w:World} {A:Around} {E:Value->Shared->Prop} {s:Shared} {K:Frag}
end
end Att
namespace L2
open PySem PySem.Spec PyProof.Rows
theorem AY:∀ {vs:List Value} {ns:List Int},IntsAre vs ns->Vals (ns.map V.int) vs
 | _,_,.nil=>.nil
 | _,_,.cons n t h=>.cons ⟨t,rfl⟩ (AY h)
def J7 (H:Hp):Prop:=∀ b,H b=none\/∃ o xs,H b=some (.frz o (.lst xs))
theorem Kp {P:Program} {w:World} {K:PySem.W.Frag} {mg mb:Str->Option Value} {CX:uT} {k:Nat} {fa a:Addr} {fd:FuncData} {x:Str} {sp:Sp} {s₁:Shared} {vs:List Value} {ns:List Int}
  (KX:K.In s₁.heap) (hns:s₁.heap.Ns mainGlobals mg) (hb:s₁.heap.Ns builtinsNs mb) (hbb:∀ x:Str,x≠"__name__"->mb x=bootBuiltins x) (hlim:s₁.heap.NoLimit) (hg:s₁.gens=#[])
  (ha:s₁.heap.get? a=some { cls:=.type "list",data:=.seq vs.toArray }) (hi:IntsAre vs ns) (hl:ns.length<=sizeLine) (hr:eN k callerA)
  (F:∀ base:Heap,K.In base->base.Ns mainGlobals mg->jN P w K mg base CX k fa fd [x] sp) (hbind:∀ (s:Shared) (u:Value),BindsTo s fd ⟨[u],[]⟩ [(x,u)])
  (hsp:∀ H:Hp,J7 H->dY K H a (ns.map V.int)->sp [.ref a] H (fun v _=>v=.bl true) fun _ _ _=>False)
  (hCX:∀ H e s',CX [] H s₁ (fun _ _ _=>False) e s'->False) :
  codeAny (model P w) callerA (.call (.ref fa) ⟨[.ref a],[]⟩) (fun r s'=>r=.ok (.ret (.bool true))/\OldK s₁.heap s'.heap/\s'.os=s₁.os/\AllBare s'.gens) s₁:=by
 have rv:=AY hi
 have lenV:=hi.length
 have core:∀ H:Hp,J7 H->dY K H a (ns.map V.int)->gE P w H s₁.heap->(∀ b,H b≠none->b=a)->(H a≠none->K.lookup a=none) ->
   codeAny (model P w) callerA (.call (.ref fa) ⟨[.ref a],[]⟩) (fun r s'=>r=.ok (.ret (.bool true))/\OldK s₁.heap s'.heap/\s'.os=s₁.os/\AllBare s'.gens) s₁:=by
  intro H hO hS hok hA hK
  have base_of:∀ {b:Addr} {o:Obj},s₁.heap.get? b=some o->H b=none->(uF s₁.heap H).get? b=some o:=fun e n=>Ka e n
  have noA:∀ {b:Addr} {o:Obj} {es:Array DictEntry} {ep:Nat},s₁.heap.get? b=some o->o.data=.dict es ep->H b=none:=fun {b o es ep} e d=>by
   cases q:H b with
   | none=>rfl
   | some u =>
    have e':b=a:=hA b (by rw [q];simp)
    subst e'
    rw [ha] at e;cases e
    have d':Data.seq vs.toArray _=Data.dict es ep:=d
    cases d'
  have nsK:∀ {b:Addr} {m:Str->Option Value},s₁.heap.Ns b m->(uF s₁.heap H).Ns b m:=fun {b m} ⟨o,es,ep,e,d,r⟩=>⟨o,es,ep,base_of e (noA e d),d,r⟩
  have hKb:K.In (uF s₁.heap H):=fun b o e=>base_of (KX b o e) (by
   cases q:H b with
   | none=>rfl
   | some u =>
    have e':b=a:=hA b (by rw [q];simp)
    subst e'
    rw [hK (by rw [q];simp)] at e;cases e)
  have hM:Mod K mg (uF s₁.heap H):=⟨hKb,nsK hns,⟨mb,nsK hb,hbb⟩,let ⟨mc,h1,h2⟩:=hlim;⟨mc,nsK h1,h2⟩⟩
  have e0:FL P w K mg (uF s₁.heap H) callerA [] s₁ H:=⟨rfl,hM,fun b o e=>LY e,Nat.le_of_eq (Ii _ _),trivial,fun b hb=>absurd (show b∈([]:List Addr) from hb) (by simp),hok,.of_eq hg⟩
  refine codeAny_mono ((F _ hKb (nsK hns)).run callerA [] s₁ H ⟨[.ref a],[]⟩ [.ref a] [.ref a] _ _ hr e0 (hbind s₁ (.ref a)) (.cons rfl .nil) (hsp H hO hS)) fun r s' h=>?_
  cases r with
  | error e=>exact (hCX H e s' h).elim
  | ok fl =>
   cases fl with
   | next=>exact False.elim h
   | brk=>exact False.elim h
   | cont=>exact False.elim h
   | ret u =>
    obtain ⟨v,H',os,bare,un,hok',r',q⟩:=h
    have q':v=.bl true:=q
    subst q'
    obtain rfl:u=Value.bool true:=r'
    refine ⟨rfl,OldK.of_keep fun b o e=>?_,os,bare⟩
    cases q:H b with
    | none=>exact un.keep b o e q (by intro z;exact absurd (show b∈([]:List Addr) from z) (by simp)) (by simp)
    | some u =>
     rcases hO b with z | ⟨ob,xs,z⟩
     ·rw [q] at z;cases z
     ·have z2:=un.frzs b ob _ z
      obtain ⟨e1,_⟩:=hok b _ z
      obtain ⟨e2,_⟩:=hok' b _ z2
      rw [e] at e1;cases e1
      exact e2
 cases hk:K.lookup a with
 | some o =>
  have e:=KX a o hk
  rw [ha] at e
  cases e
  refine core (fun _=>none) (fun _=>.inl rfl) (.inr ⟨_,vs.toArray,_,hk,rfl,rfl,rfl,by rw [List.size_toArray,lenV];exact hl,by simpa using rv⟩) (fun b u z=>by have z':(none:Option HO)=some u:=z;cases z') (fun b z=>absurd rfl z) fun z=>absurd rfl z
 | none =>
  refine core (fun b=>if b=a then some (.frz { cls:=.type "list",data:=.seq vs.toArray } (.lst (ns.map V.int))) else none) (fun b=>?_) (.inl (.inr ⟨{ cls:=.type "list",data:=.seq vs.toArray },if_pos rfl⟩)) (fun b u z=>?_) (fun b z=>?_) fun _=>hk
  ·by_cases hb:b=a
   ·exact .inr ⟨_,_,if_pos hb⟩
   ·exact .inl (if_neg hb)
  ·by_cases hb:b=a
   ·have z':=(if_pos hb).symm.trans z
    cases z'
    subst hb
    exact ⟨ha,by rw [List.length_map];exact hl,vs,_,rv,ha⟩
   ·have z':=(if_neg hb).symm.trans z
    cases z'
  ·by_cases hb:b=a
   ·exact hb
   ·exact absurd (if_neg hb) z
theorem MR {l:PySem.W.OpenLaw} {n k:Nat} {q:Program} {loose:List Str} {XP:(Str->Option Value)->Heap->Prop} {YP:World->Heap->Prop} {d:DefRec} {K:Params->PySem.W.Frag} {CX:World->uT} {sp:World->Sp} {x:Str}
  (hn:l.most=some n) (hn2:n<=sizeLine) (hdf:d.params.defaults=[]) (hr:eN k callerA)
  (hY:∀ (w:World) (h:Heap),YP w h->(K w.params).In h)
  (F:∀ (w:World) (mg:Str->Option Value) (fa:Addr) (h:Heap),(K w.params).In h->h.Ns mainGlobals mg->mg d.name=some (.ref fa) ->
   ∃ fd:FuncData,(∀ (s:Shared) (u:Value),BindsTo s fd ⟨[u],[]⟩ [(x,u)]) /\
    ∀ base:Heap,(K w.params).In base->base.Ns mainGlobals mg->jN l.prog w (K w.params) mg base (CX w) k fa fd [x] (sp w))
  (hsp:∀ (w:World) (H:Hp) (a:Addr) (ns:List Int),ns.length<=n->J7 H->dY (K w.params) H a (ns.map V.int)->sp w [.ref a] H (fun v _=>v=.bl true) fun _ _ _=>False)
  (hCX:∀ (w:World) (H:Hp) (s:Shared) (e:Value) (s':Shared),CX w [] H s (fun _ _ _=>False) e s'->False) :
  PySem.W.WalkO q loose XP YP l.row.toRowW d [] (fun f vs=>PySem.call f vs):=by
 refine Att.attach_call hn hdf fun w s₀ s₁ mg mb fa o pm cd doc a vs ns G Y ho hd hcd hmg hobj hints hlen hg=>?_
 have KX:=hY w _ Y
 obtain ⟨fd,hb,hF⟩:=F w mg fa _ KX G.T.g hmg
 exact Kp KX G.T.g G.T.b G.T.builtins G.T.nolimit hg hobj hints (Nat.le_trans hlen hn2) hr hF hb (fun H hO hS=>hsp w H a ns hlen hO hS) fun H e s'=>hCX w H s₁ e s'
end L2
namespace L2
open PySem PySem.Spec PyProof.Rows
def kJ (s:Stmt):Arguments:=match s with
 | .FunctionDef _ a _ _ _ _ _ _ _ _=>a
 | _=>{ posonlyargs:=[],args:=[],vararg:=none,kwonlyargs:=[],kw_defaults:=[],kwarg:=none,defaults:=[] }
def gK (s:Stmt):List Stmt:=match s with
 | .FunctionDef _ _ b _ _ _ _ _ _ _=>b
 | _=>[]
def aV (s:Stmt):Scope:=match s with
 | .FunctionDef _ _ _ _ _ _ sc _ _ _=>sc
 | _=>{ kind:=.function,names:=[],isGenerator:=false,isCoroutine:=false }
abbrev rH:uT:=fun _ _ _ _ _ _=>False
abbrev E0:XK:=fun _ _ _=>False
theorem Lk {X:Cx}:Passes rH X E0:=fun _ _ _ _ _ _ _ h=>h.elim
structure cZ (K:PySem.W.Frag) (x qual:Str) (st:Stmt) (f:Addr) (fd:FuncData):Prop where
 ex:∃ (oc:Value) (od:Option Addr) (kV doc pm:Value) (an:Option Addr) (cdv ct:Value) (osl:Array (Option Value)),
  fd=PySem.W.fnOf x qual (kJ st) (gK st) (aV st) .none kV doc pm an cdv ct/\K.lookup f=some ⟨oc,od,.func fd,osl⟩/\PySem.W.codeIn K cdv qual=true
 kp:PySem.W.keepIn K (.ref f)=true
section
variable {P:Program} {w:World} {K:PySem.W.Frag} {mg:Str->Option Value} {base:Heap}
theorem cZ.ok {x qual:Str} {st:Stmt} {f:Addr} {fd:FuncData} {N ps:List Str} {k:Nat} {sp:Sp} (F:cZ K x qual st f fd) (S:bH N ps (aV st)) (len:∀ vs H Q E,sp vs H Q E->vs.length=ps.length)
  (hbody:∀ (cdv:Value) (A:Around) (outer:List Env) (s:Shared) (H:Hp) (vs:List V) (Q:VK) (E:XK),eN k (A.deeper (envOfC qual (aV st) s.heap.objs.size f cdv))->sp vs H Q E ->
   ∃ t,qH (AV rH P w K mg base N qual (aV st) f cdv A outer s H E).nox (gK st) t/\t { nx:=fun _ H'=>Q .non H',rt:=Q } (start N vs) H):jN P w K mg base rH (k + 1) f fd ps sp:=by
 obtain ⟨oc,od,kV,doc,pm,an,cdv,ct,osl,rfl,lk,hcd⟩:=F.ex
 refine Qe lk hcd S len fun A outer s H vs Q E hr hsp=>?_
 obtain ⟨t,h,q⟩:=hbody cdv A outer s H vs Q E hr hsp
 exact ⟨t,h.nox,q⟩
theorem cZ.binds {x qual:Str} {st:Stmt} {f:Addr} {fd:FuncData} {ps:List Str} (F:cZ K x qual st f fd)
  (h:∀ (kV doc pm:Value) (an:Option Addr) (cdv ct:Value) (us:List Value),us.length=ps.length->bindArgs (PySem.W.fnOf x qual (kJ st) (gK st) (aV st) .none kV doc pm an cdv ct) ⟨us,[]⟩=pure (ps.zip us)):Binds K fd ps []:=by
 obtain ⟨oc,od,kV,doc,pm,an,cdv,ct,osl,rfl,lk,hcd⟩:=F.ex
 exact .all (h kV doc pm an cdv ct)
theorem HI {x qual:Str} {st:Stmt} {f:Addr} {oc:Value} {od an:Option Addr} {osl:Array (Option Value)} {kV doc pm cdv ct:Value} (l:K.lookup f=some ⟨oc,od,.func (PySem.W.fnOf x qual (kJ st) (gK st) (aV st) .none kV doc pm an cdv ct),osl⟩)
  (c:PySem.W.codeIn K cdv qual=true) (k:PySem.W.keepIn K (.ref f)=true):cZ K x qual st f (PySem.W.fnOf x qual (kJ st) (gK st) (aV st) .none kV doc pm an cdv ct):=⟨⟨oc,od,kV,doc,pm,an,cdv,ct,osl,rfl,l,c⟩,k⟩
end
theorem By {A:Around} {k:Nat} (hr:eN k A):A.units + 1 < cLine:=Nat.lt_of_le_of_lt (Nat.add_le_add_left (by decide:1<=64) _) hr.units
section
variable {X:Cx}
end
theorem fS {c A B:Prop} [Decidable c] (h1:c->A) (h2:¬ c->B):if c then A else B:=by
 by_cases h:c
 ·rw [if_pos h]
  exact h1 h
 ·rw [if_neg h]
  exact h2 h
section
variable {κ:Type} [DecidableEq κ]
def kW (kvs:List (κ × V)) (k:κ):Option V:=(kvs.find? fun kv=>decide (kv.1=k)).map (·.2)
def putK (kvs:List (κ × V)) (k:κ) (v:V):List (κ × V) :=
 if (kvs.any fun kv=>decide (kv.1=k))=true then kvs.map (fun kv=>if kv.1=k then (kv.1,v) else kv) else kvs++[(k,v)]
def tL (kvs:List (κ × V)) (k:κ):List (κ × V):=kvs.filter fun kv=>decide (kv.1≠k)
theorem jD {p:κ × V} {r:List (κ × V)} {k:κ} (e:p.1=k):kW (p :: r) k=some p.2:=by simp [kW,List.find?_cons,e]
theorem jA {p:κ × V} {r:List (κ × V)} {k:κ} (e:¬ p.1=k):kW (p :: r) k=kW r k:=by simp [kW,List.find?_cons,e]
theorem uO (k:κ):∀ kvs:List (κ × V),(kvs.any fun kv=>decide (kv.1=k))=(kW kvs k).isSome
 | []=>rfl
 | p :: r=>by
  rw [List.any_cons]
  by_cases e:p.1=k
  ·simp only [jD e,decide_eq_true e,Bool.true_or,Option.isSome_some]
  ·rw [jA e,decide_eq_false e,Bool.false_or];exact uO k r
theorem Kz (k j:κ) (y:V):∀ kvs:List (κ × V),kW (kvs.map fun kv=>if kv.1=k then (kv.1,y) else kv) j=(kW kvs j).map fun x=>if j=k then y else x
 | []=>rfl
 | p :: r=>by
  have ih:=Kz k j y r
  rw [List.map_cons]
  by_cases h:p.1=k
  ·rw [if_pos h]
   by_cases e:p.1=j
   ·rw [jD (p:=(p.1,y)) e,jD e,Option.map_some,if_pos (e.symm.trans h)]
   ·rw [jA (p:=(p.1,y)) e,jA e,ih]
  ·rw [if_neg h]
   by_cases e:p.1=j
   ·rw [jD (p:=p) e,jD e,Option.map_some,if_neg (fun z=>h (e.trans z))]
   ·rw [jA (p:=p) e,jA e,ih]
theorem nA (kvs:List (κ × V)) (k:κ) (v:V):(putK kvs k v).length<=kvs.length + 1:=by
 unfold putK
 split
 ·rw [List.length_map];omega
 ·rw [List.length_append,List.length_cons,List.length_nil];omega
theorem Q9 {kvs:List (κ × V)} {k:κ} (v:V) (h:kW kvs k=none):putK kvs k v=kvs++[(k,v)]:=by
 unfold putK
 rw [uO,h]
 exact if_neg (by decide)
theorem l7.isSome_eq {o:Option V} {u:Option Value} (r:l7 o u):o.isSome=u.isSome:=by
 cases o with
 | none=>cases u with
  | none=>rfl
  | some _=>exact (show False from r).elim
 | some _=>cases u with
  | none=>exact (show False from r).elim
  | some _=>rfl
theorem l7.getD {o:Option V} {u:Option Value} {d:V} {d':Value} (r:l7 o u) (rd:RelV d d'):RelV (o.getD d) (u.getD d'):=by
 cases o with
 | none=>cases u with
  | none=>exact rd
  | some _=>exact (show False from r).elim
 | some _=>cases u with
  | none=>exact (show False from r).elim
  | some _=>exact r
theorem KV.val {kvs:List (κ × V)} {vs:List (κ × Value)} (r:KV kvs vs) (k:κ):l7 (kW kvs k) (valueAt vs k):=by
 unfold KV at r
 induction r with
 | nil=>exact True.intro
 | @cons p q ps qs h t ih =>
  obtain ⟨h1,h2⟩:=h
  by_cases e:p.1=k
  ·have e':q.1=k:=h1.symm.trans e
   have b:valueAt (q :: qs) k=some q.2:=by simp [valueAt,List.find?_cons,e']
   rw [jD e,b];exact h2
  ·have e':¬ q.1=k:=fun z=>e (h1.trans z)
   have b:valueAt (q :: qs) k=valueAt qs k:=by simp [valueAt,List.find?_cons,e']
   rw [jA e,b];exact ih
theorem KV.any {kvs:List (κ × V)} {vs:List (κ × Value)} (r:KV kvs vs) (k:κ):(kvs.any fun kv=>decide (kv.1=k))=vs.any fun kv=>decide (kv.1=k):=by
 unfold KV at r
 induction r with
 | nil=>rfl
 | cons h t ih=>rw [List.any_cons,List.any_cons,ih,h.1]
theorem KV.repl {kvs:List (κ × V)} {vs:List (κ × Value)} (r:KV kvs vs) (k:κ) {y:V} {u:Value} (ry:RelV y u) :
  KV (kvs.map fun kv=>if kv.1=k then (kv.1,y) else kv) (vs.map fun kv=>if kv.1=k then (kv.1,u) else kv):=by
 unfold KV at r ⊢
 induction r with
 | nil=>exact .nil
 | @cons p q ps qs h t ih =>
  rw [List.map_cons,List.map_cons]
  refine .cons ?_ ih
  obtain ⟨h1,h2⟩:=h
  by_cases e:p.1=k
  ·rw [if_pos e,if_pos (h1.symm.trans e)];exact ⟨h1,ry⟩
  ·rw [if_neg e,if_neg (fun z=>e (h1.trans z))];exact ⟨h1,h2⟩
theorem KV.put {kvs:List (κ × V)} {vs:List (κ × Value)} (r:KV kvs vs) (k:κ) {y:V} {u:Value} (ry:RelV y u):KV (putK kvs k y) (stored vs k u):=by
 unfold putK stored
 rw [r.any k]
 by_cases e:(vs.any fun kv=>decide (kv.1=k))=true
 ·rw [if_pos e,if_pos e];exact r.repl k ry
 ·rw [if_neg e,if_neg e];exact Paired.snoc r ⟨rfl,ry⟩
theorem KV.length {kvs:List (κ × V)} {vs:List (κ × Value)} (r:KV kvs vs):kvs.length=vs.length:=Paired.length r
end
theorem wD {P:Program} {w:World} {k:Key} {u:Value} (r:RelV (kV k) u):(cF P w).is k u=true:=by
 cases k with
 | inl i=>obtain ⟨t,e⟩:=(show ∃ t,u=Value.int i t from r);subst e;exact DQ P w i t
 | inr x=>obtain ⟨t,e⟩:=(show ∃ t,u=Value.str x t from r);subst e;exact Dm P w x t
theorem Pr {a b:Key} (e:kV a=kV b):a=b:=by
 cases a with
 | inl i=>cases b with
  | inl j=>have e':V.int i=V.int j:=e;injection e' with e';rw [e']
  | inr y=>exact nomatch (show V.int i=V.str y from e)
 | inr x=>cases b with
  | inl j=>exact nomatch (show V.str x=V.int j from e)
  | inr y=>have e':V.str x=V.str y:=e;injection e' with e';rw [e']
theorem MC:∀ {a b:List Key},a.map kV=b.map kV->a=b
 | [],[],_=>rfl
 | [],_ :: _,e=>by simp at e
 | _ :: _,[],e=>by simp at e
 | x :: xs,y :: ys,e=>by
  rw [List.map_cons,List.map_cons] at e
  injection e with e1 e2
  rw [Pr e1,MC e2]
theorem A0 {P:Program} {w:World}:∀ {ks:List Key} {us:List Value},Vals (ks.map kV) us->ItemsAre (cF P w) ks us
 | [],_,r=>by rw [List.map_nil] at r;cases r;exact .nil
 | k :: ks,_,r=>by
  rw [List.map_cons] at r
  cases r with
  | cons h t=>exact .cons (wD h) (A0 t)
abbrev jR (H:Hp):List (List Key × V)->List (List Key × Addr × Value)->Prop:=Paired fun p q=>p.1=q.1/\H q.2.1=some (.tup (p.1.map kV))/\RelV p.2 q.2.2
theorem jR.val {H:Hp} {kvs:List (List Key × V)} {xs:List (List Key × Addr × Value)} (r:jR H kvs xs) (k:List Key):l7 (kW kvs k) ((atKey xs k).map (·.2)):=by
 induction r with
 | nil=>exact True.intro
 | @cons p q ps qs h t ih =>
  obtain ⟨h1,_,h2⟩:=h
  by_cases e:p.1=k
  ·have e':q.1=k:=h1.symm.trans e
   have b:atKey (q :: qs) k=some q.2:=by simp [atKey,List.find?_cons,e']
   rw [jD e,b];exact h2
  ·have e':¬ q.1=k:=fun z=>e (h1.trans z)
   have b:atKey (q :: qs) k=atKey qs k:=by simp [atKey,List.find?_cons,e']
   rw [jA e,b];exact ih
theorem jR.repl {H:Hp} {kvs:List (List Key × V)} {xs:List (List Key × Addr × Value)} (r:jR H kvs xs) (k:List Key) {y:V} {u:Value} (ry:RelV y u) :
  jR H (kvs.map fun kv=>if kv.1=k then (kv.1,y) else kv) (xs.map (putAt k u)):=by
 induction r with
 | nil=>exact .nil
 | @cons p q ps qs h t ih =>
  rw [List.map_cons,List.map_cons]
  refine .cons ?_ ih
  obtain ⟨h1,h2,h3⟩:=h
  unfold putAt
  by_cases e:p.1=k
  ·rw [if_pos e,if_pos (h1.symm.trans e)];exact ⟨h1,h2,ry⟩
  ·rw [if_neg e,if_neg (fun z=>e (h1.trans z))];exact ⟨h1,h2,h3⟩
theorem jR.put {H:Hp} {kvs:List (List Key × V)} {xs:List (List Key × Addr × Value)} (r:jR H kvs xs) (k:List Key) {b:Addr} {y:V} {u:Value} (hb:H b=some (.tup (k.map kV))) (ry:RelV y u) :
  jR H (putK kvs k y) (storedH xs k b u):=by
 have e:(kvs.any fun kv=>decide (kv.1=k))=(atKey xs k).isSome:=by
  rw [uO,(r.val k).isSome_eq,Option.isSome_map]
 unfold putK storedH
 rw [e]
 by_cases q:(atKey xs k).isSome=true
 ·rw [if_pos q,if_pos q];exact r.repl k ry
 ·rw [if_neg q,if_neg q];exact Paired.snoc r ⟨rfl,hb,ry⟩
theorem jR.keeps {H H':Hp} {kvs:List (List Key × V)} {xs:List (List Key × Addr × Value)} (r:jR H kvs xs) (ht:∀ b ys,H b=some (.tup ys)->H' b=some (.tup ys)):jR H' kvs xs :=
 Paired.mapP r fun _ _ z=>⟨z.1,ht _ _ z.2.1,z.2.2⟩
section
variable {P:Program} {w:World} {H:Hp} {h:Heap} {a:Addr}
theorem Ls {u:HO} (ok:gE P w H h) (e:Rd H a u):cK P w H h a u:=e.ok ok
theorem vV {kvs:List (Key × V)} (ok:gE P w H h) (e:Rd H a (.dK kvs)):kvs.length<=sizeLine/\(a == sysModules)=false/\∃ vs,KV kvs vs/\h.DictOf (cF P w) a vs :=
 show cK P w H h a (.dK kvs) from Ls ok e
theorem Qi {kvs:List (Key × V)} (ok:gE P w H h) (e:H a=some (.dK kvs)):kvs.length<=sizeLine/\(a == sysModules)=false/\∃ vs,KV kvs vs/\h.DictOf (cF P w) a vs:=vV ok (.inl e)
theorem pN {ks:List Key} (ok:gE P w H h) (e:H a=some (.tup (ks.map kV))):(tupleKind (cF P w)).is h ks a:=by
 obtain ⟨_,its,r,o,h1,h2,_,n,h3⟩:=(show cK P w H h a (.tup (ks.map kV)) from ok a _ e)
 exact ⟨o,its.toArray,n,h1,h2,h3,by simpa using A0 r⟩
theorem vS {kvs:List (List Key × V)} (ok:gE P w H h) (e:Rd H a (.dT kvs)):kvs.length<=sizeLine/\(a == sysModules)=false /\
  ∃ xs,jR H kvs xs/\h.DictOfH (tupleKind (cF P w)) a xs:=by
 obtain ⟨z,y,xs,r,o,es,ep,h1,h2,h3,h4,h5⟩:=(show cK P w H h a (.dT kvs) from Ls ok e)
 refine ⟨z,y,xs,r,o,es,ep,h1,h2,h3,h4,fun x hx=>?_,h5⟩
 have all:∀ {l:List (List Key × V)} {m:List (List Key × Addr × Value)},jR H l m->∀ x∈m,(tupleKind (cF P w)).is h x.1 x.2.1:=by
  intro l m q
  induction q with
  | nil=>intro x hx;exact nomatch hx
  | @cons p q ps qs hq t ih =>
   intro x hx
   rcases List.mem_cons.mp hx with e | hx
   ·subst e
    exact pN ok (by rw [<- hq.1];exact hq.2.1)
   ·exact ih x hx
 exact all r x hx
theorem QB {kvs:List (List Key × V)} (ok:gE P w H h) (e:H a=some (.dT kvs)):kvs.length<=sizeLine/\(a == sysModules)=false /\
  ∃ xs,jR H kvs xs/\h.DictOfH (tupleKind (cF P w)) a xs:=vS ok (.inl e)
end
def sO (H:Hp) (a:Addr) (y:V) (r:Option V):Prop :=
 (∃ kvs k,Rd H a (.dK kvs)/\y=kV k/\r=kW kvs k)\/∃ kvs k b,Rd H a (.dT kvs)/\y=.ref b/\H b=some (.tup (k.map kV))/\r=kW kvs k
def Ao (H:Hp) (a:Addr) (y v:V) (H':Hp):Prop :=
 (∃ kvs k,H a=some (.dK kvs)/\y=kV k/\kvs.length < sizeLine/\H'=upd H a (.dK (putK kvs k v))) \/
 ∃ kvs k b,H a=some (.dT kvs)/\y=.ref b/\H b=some (.tup (k.map kV))/\kvs.length < sizeLine/\H'=upd H a (.dT (putK kvs k v))
theorem Ao.k {H:Hp} {a:Addr} {kvs:List (Key × V)} {k:Key} {v:V} (e:H a=some (.dK kvs)) (hl:kvs.length < sizeLine):Ao H a (kV k) v (upd H a (.dK (putK kvs k v))):=.inl ⟨kvs,k,e,rfl,hl,rfl⟩
theorem Ao.t {H:Hp} {a b:Addr} {kvs:List (List Key × V)} {k:List Key} {v:V} (e:H a=some (.dT kvs)) (eb:H b=some (.tup (k.map kV))) (hl:kvs.length < sizeLine) :
  Ao H a (.ref b) v (upd H a (.dT (putK kvs k v))):=.inr ⟨kvs,k,b,e,rfl,eb,hl,rfl⟩
section
variable {X:Cx} {pins:List (Addr × Obj)} {σ:St} {H:Hp} {s:Shared} {a:Addr} {y v:V} {u r:Value} {o:Option V} {A:Around} {E:Value->Shared->Prop}
theorem Inv.big (I:Inv X pins σ H s):sysModules < s.heap.objs.size:=by
 have h:mainGlobals < s.heap.objs.size:=(I.mod.glob.keeps I.bk).lt
 exact Nat.lt_trans (by decide) h
theorem HJ {Q:Value->Shared->Prop} (hu:A.units + 1 < cLine) (I:Inv X pins σ H s) (g:sO H a y (some v)) (ry:RelV y u) (h:∀ w' s',Inv X pins σ H s'->RelV v w'->Q w' s') :
  wpAny (model X.prog X.w) A (getItem (.ref a) u) Q E s:=by
 rcases g with ⟨kvs,k,e,ey,l⟩ | ⟨kvs,k,b,e,ey,eb,l⟩
 ·subst ey
  obtain ⟨z,hd,vs,rel,dd⟩:=vV I.hok e
  obtain ⟨w',hw,rw'⟩:=l7.some_of (v:=v) (o:=valueAt vs k) (by rw [l];exact rel.val k)
  exact wpAny_getItem_of (wD ry) dd.mapOf hw (h w' _ (I.tok _) rw')
 ·subst ey
  cases (show u=Value.ref b from ry)
  obtain ⟨z,hd,xs,rel,dd⟩:=vS I.hok e
  obtain ⟨w',hw,rw'⟩:=l7.some_of (v:=v) (o:=(atKey xs k).map (·.2)) (by rw [l];exact rel.val k)
  obtain ⟨p,hp,hp2⟩:=Option.map_eq_some_iff.mp hw
  refine wpAny_getItem_heap (tupleKind_room_in1 hu) (pN I.hok eb) dd hp ?_
  rw [hp2]
  exact h w' _ (I.tok _) rw'
theorem NK {Q:Value->Shared->Prop} (hu:A.units + 1 < cLine) (I:Inv X pins σ H s) (g:sO H a y o) (ry:RelV y u) (h:∀ s',Inv X pins σ H s'->Q (.bool (!o.isSome)) s') :
  wpAny (model X.prog X.w) A (compareOp .NotIn u (.ref a)) Q E s:=by
 rcases g with ⟨kvs,k,e,ey,l⟩ | ⟨kvs,k,b,e,ey,eb,l⟩
 ·subst ey
  obtain ⟨z,hd,vs,rel,dd⟩:=vV I.hok e
  refine wpAny_notIn_of (wD ry) hd dd.mapOf ?_
  rw [<- (rel.val k).isSome_eq,<- l]
  exact h _ (I.tok _)
 ·subst ey
  cases (show u=Value.ref b from ry)
  obtain ⟨z,hd,xs,rel,dd⟩:=vS I.hok e
  refine wpAny_notIn_heap (tupleKind_room_in1 hu) (pN I.hok eb) hd dd ?_
  have q:=(rel.val k).isSome_eq
  rw [Option.isSome_map] at q
  rw [<- q,<- l]
  exact h _ (I.tok _)
theorem zZ {h':Heap} {t':Nat} {ob:HO} (I:Inv X pins σ H s) (mu:Hk (H a)) (hs:Heap.SameBut a s.heap h') (he:∃ q,h'.get? a=some q) (new:cK X.prog X.w (upd H a ob) h' a ob) :
  Inv X pins σ (upd H a ob) { s with heap:=h',toks:=t' } :=
 I.write (x:=a) (e:=a) mu (.inl rfl) (fun b q hb z=>(hs.2 b hb).trans z) he new
theorem Ov {P:Program} {w:World} {H':Hp} {h':Heap} {kvs:List (Key × V)} {vs:List (Key × Value)} (z:kvs.length<=sizeLine) (hd:(a == sysModules)=false) (rel:KV kvs vs) (dd:h'.DictOf (cF P w) a vs) :
  cK P w H' h' a (.dK kvs):=⟨z,hd,vs,rel,dd⟩
theorem Hf {H':Hp} {Q:Unit->Shared->Prop} (hu:A.units + 1 < cLine) (I:Inv X pins σ H s) (g:Ao H a y v H') (ry:RelV y u) (rv:RelV v r) (h:∀ s',Inv X pins σ H' s'->Q () s') :
  wpAny (model X.prog X.w) A (setItem (.ref a) u r) Q E s:=by
 rcases g with ⟨kvs,k,e,ey,l,eH⟩ | ⟨kvs,k,b,e,ey,eb,l,eH⟩
 ·subst ey eH
  obtain ⟨z,hd,vs,rel,dd⟩:=Qi I.hok e
  have hz:vs.length<=sizeLine:=by rw [<- rel.length];exact z
  have hl:(putK kvs k v).length<=sizeLine:=by have:=nA kvs k v;omega
  refine wpAny_setItem_pairs (hsz:=hz) (wD ry) dd fun h' dd' hs=>h _ ?_
  have he:∃ q,h'.get? a=some q:=let ⟨q,_,_,hq,_⟩:=dd';⟨q,hq⟩
  exact zZ I (by rw [e];exact True.intro) hs he (Ov hl hd (rel.put k rv) dd')
 ·subst ey eH
  cases (show u=Value.ref b from ry)
  obtain ⟨z,hd,xs,rel,dd⟩:=QB I.hok e
  have hz:xs.length<=sizeLine:=by rw [<- Paired.length rel];exact z
  have hl:(putK kvs k v).length<=sizeLine:=by have:=nA kvs k v;omega
  refine wpAny_setItem_heap (hsz:=hz) (tupleKind_room_in1 hu) (pN I.hok eb) dd fun h' dd' hs=>h _ ?_
  obtain ⟨q,es,ep,hq,h2,h3,h4,_,h5⟩:=dd'
  refine zZ I (by rw [e];exact True.intro) hs ⟨q,hq⟩ ⟨hl,hd,_,(rel.put k eb rv).keeps fun c ys ec=>?_,q,es,ep,hq,h2,h3,h4,h5⟩
  rw [bL (Ly ec e (fun z=>nomatch z))]
  exact ec
end
section
variable {X:Cx} {pins:List (Addr × Obj)} {σ:St} {H:Hp} {s:Shared} {a:Addr} {kvs:List (Key × V)} {k:Key} {u:Value} {A:Around} {E:Value->Shared->Prop}
end
def Kh (i:Expr):Prop:=∀ ov iv,subscripted i false ov iv=operate [ov,iv] (getItem ov iv)
theorem MV {prog:Program} {w:World} {A:Around} {E:Value->Shared->Prop} {s:Shared} {env:Env} {value slice:Expr} {pos:Pos} {T id:String} {Q:Value->Shared->Prop}
  (hl:typeLookup (.type T) "__getitem__"=pure (some (.builtin id))) (hs:Kh slice)
  (h:wpAny (model prog w) A (eval value env) (fun o s₁=>wpAny (model prog w) A (eval slice env) (fun i s₂=>s₂.TypeIs o T/\wpAny (model prog w) A (getItem o i) Q E s₂) E s₁) E s) :
  wpAny (model prog w) A (eval (.Subscript value slice pos) env) Q E s:=by
 refine Subscript_ (wpAny_mono h (fun o s₁ h₁=>wpAny_mono h₁ (fun i s₂ h₂=>?_) fun _ _ x=>x) fun _ _ x=>x)
 obtain ⟨hT,h₂⟩:=h₂
 unfold subscriptTail
 refine wpAny_bind ?_
 rw [getitemInPython_of_ne hT.not_modules]
 refine wpAny_bind (wpAny_specialOf hT hl ?_)
 have fin:wpAny (model prog w) A (subscripted slice false o i) (fun r s₃=>wpAny (model prog w) A (letTemporaryGo value o r >>= fun _=>pure r) Q E s₃) E s₂:=by
  rw [hs o i]
  exact wpAny_operating (wpAny_mono h₂ (fun r s₃ h₃=>wpAny_bind (wpAny_letTemporaryGo (wpAny_pure h₃))) fun _ _ x=>x)
 first
  | exact wpAny_pure (wpAny_bind fin)
  | exact wpAny_bind (wpAny_pure (wpAny_bind fin))
  | exact wpAny_bind fin
theorem Du {X:Cx} {pins:List (Addr × Obj)} {σ:St} {H:Hp} {s:Shared} {a:Addr} {y:V} {o:Option V} (I:Inv X pins σ H s) (g:sO H a y o):s.TypeIs (.ref a) "dict":=by
 rcases g with ⟨kvs,k,e,_,_⟩ | ⟨kvs,k,b,e,_,_,_⟩
 ·obtain ⟨_,_,vs,_,dd⟩:=vV I.hok e
  exact dd.typeIs
 ·obtain ⟨_,_,xs,_,dd⟩:=vS I.hok e
  exact dd.typeIs
def Qu (td ty:TE):TE:=fun σ H Q=>td σ H fun x H1=>ty σ H1 fun y H2=>∃ a v,x=.ref a/\sO H2 a y (some v)/\Q v H2
def Qy (td ty tv:TE):TS:=fun D σ H=>tv σ H fun v H1=>td σ H1 fun x H2=>ty σ H2 fun y H3=>∃ a H4,x=.ref a/\Ao H3 a y v H4/\D.nx σ H4
section
variable {X:Cx} {o i e value:Expr} {pos pos' tpos:Pos} {td ty tv:TE}
theorem MK (hu:X.A.units + 1 < cLine) (ho:PE X o td) (hi:PE X i ty) (hs:Kh i):PE X (.Subscript o i pos) (Qu td ty):=by
 intro pins s σ H Q I h
 refine MV PySem.F.slot_dict_getitem.lookup hs (bE (ho pins s σ H _ I h) fun u s1 ⟨x,H1,I1,rx,q1⟩=>bE (hi pins s1 σ H1 _ I1 q1) fun iv s2 ⟨y,H2,I2,ry,a,v,ex,g,q2⟩=>?_)
 subst ex
 obtain rfl:u=Value.ref a:=rx
 exact ⟨Du I2 g,HJ hu I2 g ry fun w' s3 I3 rw'=>⟨v,H2,I3,rw',q2⟩⟩
theorem NA (hu:X.A.units + 1 < cLine) (ho:PE X o td) (hi:PE X i ty) (hv:PE X value tv) (hs:swapsWith value (some (.Subscript o i pos')) pos.line X.env=pure false) :
  PS X (.Assign [.Subscript o i pos'] value pos) (Qy td ty tv):=by
 intro pins s σ H D I h
 refine wpAny_Assign_Subscript (bE (hv pins s σ H _ I h) fun r s1 ⟨v,H1,I1,rv,q1⟩=>bE (ho pins s1 σ H1 _ I1 q1) fun u s2 ⟨x,H2,I2,rx,q2⟩=>bE (hi pins s2 σ H2 _ I2 q2) fun iv s3 ⟨y,H3,I3,ry,a,H4,ex,g,q3⟩=>?_) hs
 subst ex
 obtain rfl:u=Value.ref a:=rx
 exact Hf hu I3 g ry rv fun s4 I4=>⟨σ,H4,I4,q3⟩
end
theorem Kx {P:Program} {w:World} {H:Hp} (h:Heap) (hb:sysModules < h.objs.size):cK P w H (h.push { cls:=.type "dict",data:=.dict #[] }) h.objs.size (.dK []) :=
 ⟨Nat.zero_le _,beq_eq_false_iff_ne.mpr (Ne.symm (Nat.ne_of_lt hb)),[],.nil,Heap.DictOf.new h⟩
theorem CA {P:Program} {w:World} {H:Hp} (h:Heap) (hb:sysModules < h.objs.size):cK P w H (h.push { cls:=.type "dict",data:=.dict #[] }) h.objs.size (.dT []) :=
 ⟨Nat.zero_le _,beq_eq_false_iff_ne.mpr (Ne.symm (Nat.ne_of_lt hb)),[],.nil,_,#[],0,Heap.get?_push_size _ rfl,⟨rfl,rfl,rfl⟩,rfl,rfl,List.nodup_nil⟩
def Gv:TE:=fun _ H Q=>∀ p,H p=none->Q (.ref p) (upd H p (.dK []))
def HM:TE:=fun _ H Q=>∀ p,H p=none->Q (.ref p) (upd H p (.dT []))
section
variable {X:Cx} {pos:Pos}
theorem IS:PE X (.Dict [] [] pos) Gv:=fun pins s σ H Q I h =>
 wpAny_Dict_empty ⟨.ref s.heap.objs.size,_,I.laid (a:=s.heap.objs.size) (o:=.dK []) (t':=s.toks) (fun _ _ q=>Heap.get?_push_of_some _ q) (Nat.le_refl _) (Kx s.heap I.big),rfl,h _ (I.hok.fresh (Nat.le_refl _))⟩
theorem Ki:PE X (.Dict [] [] pos) HM:=fun pins s σ H Q I h =>
 wpAny_Dict_empty ⟨.ref s.heap.objs.size,_,I.laid (a:=s.heap.objs.size) (o:=.dT []) (t':=s.toks) (fun _ _ q=>Heap.get?_push_of_some _ q) (Nat.le_refl _) (CA s.heap I.big),rfl,h _ (I.hok.fresh (Nat.le_refl _))⟩
end
abbrev VV:List (V × V)->List (Value × Value)->Prop:=Paired fun p q=>RelV p.1 q.1/\RelV p.2 q.2
structure M1 (X:Cx) (o:Expr) (m:Str) (apos:Pos) (e:Expr) (cpos:Pos):Prop where
 base:attributeBase o m X.env (eval o X.env)=eval o X.env
 few:((backTo cpos (starEach [e] X.env)).all (fun x=>!x.1) && (backToKw cpos (keywordEach [] X.env)).all (fun x=>x.1.isSome)
  && decide (([e]:List Expr).length + ([]:List Keyword).length + (if ([]:List Keyword).isEmpty then 0 else 1) < 30))=true
 line:(apos.endLine == cpos.line)=true
 trees:backTo cpos (starEach [e] X.env)=[(false,eval e X.env)]
def N0 (H:Hp) (a:Addr):Prop:=(∃ kvs,Rd H a (.dK kvs))\/∃ kvs,Rd H a (.dT kvs)
theorem Om {X:Cx} {pins:List (Addr × Obj)} {σ:St} {H:Hp} {s:Shared} {a:Addr} (I:Inv X pins σ H s) (d:N0 H a) :
  s.TypeIs (.ref a) "dict"/\(∀ b,Value.ref a=.ref b->∃ ob,s.heap.get? b=some ob/\ob.dict=none)/\(a == sysModules)=false:=by
 rcases d with ⟨kvs,e⟩ | ⟨kvs,e⟩
 ·obtain ⟨_,hd,vs,_,dd⟩:=vV I.hok e
  refine ⟨dd.typeIs,fun b q=>?_,hd⟩
  cases q
  obtain ⟨ob,_,_,h1,h2,_⟩:=dd
  exact ⟨ob,h1,h2.2.1⟩
 ·obtain ⟨_,hd,xs,_,dd⟩:=vS I.hok e
  refine ⟨dd.typeIs,fun b q=>?_,hd⟩
  cases q
  obtain ⟨ob,_,_,h1,h2,_⟩:=dd
  exact ⟨ob,h1,h2.2.1⟩
section
variable {X:Cx} {pins:List (Addr × Obj)} {σ:St} {H:Hp} {s:Shared} {a:Addr} {y d:V} {u r:Value} {o:Option V} {A:Around} {E:Value->Shared->Prop}
theorem Oz {Q:Value->Shared->Prop} (hu:A.units + 1 < cLine) (I:Inv X pins σ H s) (g:sO H a y o) (ry:RelV y u) (h:∀ w' s',Inv X pins σ H s'->RelV (o.getD .non) w'->Q w' s') :
  wpAny (model X.prog X.w) A (call (.builtin "dict.get") [.ref a,u]) Q E s:=by
 rcases g with ⟨kvs,k,e,ey,l⟩ | ⟨kvs,k,b,e,ey,eb,l⟩
 ·subst ey
  obtain ⟨z,hd,vs,rel,dd⟩:=vV I.hok e
  refine call_meetsIn PySem.F.slot_dict_get dd.typeIs PySem.F.entry_dict_get (PySem.F.args_dict_get_2 _ _) (meets_dict_get (cF X.prog X.w) a (wD ry) hd) ⟨_,dd.mapOf,h _ _ (I.tok _) ?_⟩
  rw [l]
  exact (rel.val k).getD rfl
 ·subst ey
  cases (show u=Value.ref b from ry)
  obtain ⟨z,hd,xs,rel,dd⟩:=vS I.hok e
  refine call_meetsIn PySem.F.slot_dict_get dd.typeIs PySem.F.entry_dict_get (PySem.F.args_dict_get_2 _ _) (meetsH_dict_get (tupleKind (cF X.prog X.w)) a b hd) ⟨tupleKind_room_in1 hu,k,xs,pN I.hok eb,dd,h _ _ (I.tok _) ?_⟩
  rw [l]
  exact (rel.val k).getD rfl
end
def PF (td ty:TE):TE:=fun σ H Q=>td σ H fun x H1=>∃ a,x=.ref a/\N0 H1 a/\ty σ H1 fun y H2=>∃ o,sO H2 a y o/\Q (o.getD .non) H2
section
variable {X:Cx} {o e f:Expr} {apos cpos:Pos} {td ty tx:TE}
theorem KW (hu:X.A.units + 1 < cLine) (ho:PE X o td) (he:PE X e ty) (m:M1 X o "get" apos e cpos):PE X (.Call (.Attribute o "get" apos) [e] [] cpos) (PF td ty):=by
 intro pins s σ H Q I h
 refine wpAny_Call_method m.base m.few m.line PySem.F.plainAttrs_dict PySem.F.slot_dict_get PySem.F.type_dict_get (bE (ho pins s σ H _ I h) fun u s1 ⟨x,H1,I1,rx,a,ex,d,q1⟩=>?_)
 subst ex
 obtain rfl:u=Value.ref a:=rx
 obtain ⟨t1,t2,_⟩:=Om I1 d
 refine ⟨t1,t2,?_⟩
 rw [m.trees]
 refine Calls.callWith_builtin rfl (Calls.evalArgs_plain (Calls.spliced_cons (bE (he pins s1 σ H1 _ I1 q1) fun iv s2 ⟨y,H2,I2,ry,ov,g,q2⟩=>Calls.spliced_nil ?_)))
 exact Oz hu I2 g ry fun w' s3 I3 rw'=>⟨_,H2,I3,rw',q2⟩
end
section
variable {X:Cx} {pins:List (Addr × Obj)} {σ:St} {H:Hp} {s:Shared} {a:Addr} {kvs:List (Key × V)} {A:Around} {E:Value->Shared->Prop}
end
section
variable {X:Cx} {pins:List (Addr × Obj)} {σ:St} {H:Hp} {s:Shared} {a:Addr} {y:V} {u:Value} {A:Around} {E:Value->Shared->Prop}
end
section
variable {X:Cx}
end
section
variable {κ:Type} [DecidableEq κ]
theorem QO {p:κ × V} {r:List (κ × V)} {k:κ} (e:p.1=k):tL (p :: r) k=tL r k:=by
 unfold tL
 rw [List.filter_cons,if_neg (by simp [e])]
theorem Hc {p:κ × V} {r:List (κ × V)} {k:κ} (e:¬ p.1=k):tL (p :: r) k=p :: tL r k:=by
 unfold tL
 rw [List.filter_cons,if_pos (by simp [e])]
theorem Jl:∀ {kvs:List (κ × V)} {k:κ},¬ k∈kvs.map (·.1)->tL kvs k=kvs
 | [],_,_=>rfl
 | p :: r,k,h=>by
  have h':¬ k∈r.map (·.1):=fun m=>by
   obtain ⟨q,hq,e⟩:=List.mem_map.mp m
   exact h (List.mem_map.mpr ⟨q,List.mem_cons.mpr (Or.inr hq),e⟩)
  rw [Hc fun e=>h (List.mem_map.mpr ⟨p,List.mem_cons.mpr (Or.inl rfl),e⟩),Jl h']
end
end L2
namespace U2
open PySem L2
inductive U where
 | non | bl (b:Bool) | int (i:Int) | str (x:Str) | tup (us:List U) | lst (us:List U) | ref (a:Addr) | ty (n:String) | dic (ks:List (List Key)) (tk:Bool) (us:List U)
inductive MO where
 | lst (us:List U) | dK (kvs:List (Key × U)) | dT (kvs:List (List Key × U)) | dN (kvs:List ((List Key × Key) × U)) | tbl (q:Str)
abbrev aF:=Addr->Option MO
def mup (M:aF) (a:Addr) (o:MO):aF:=fun b=>if b=a then some o else M b
theorem aH {M:aF} {a:Addr} {o:MO}:mup M a o a=some o:=by unfold mup;rw [if_pos rfl]
theorem aO {M:aF} {a b:Addr} {o:MO} (h:b≠a):mup M a o b=M b:=by unfold mup;rw [if_neg h]
theorem bX {M:aF} {a:Addr} {o u:MO}:mup (mup M a o) a u=mup M a u:=by
 funext b;unfold mup;split <;> rfl
def KT (K:PySem.W.Frag) (a:Addr) (xs:List V):Prop :=
 ∃ (o:Obj) (its:Array Value) (n:Nat),K.lookup a=some o/\o.cls=.type "tuple"/\o.dict=none/\o.data=.seq its n/\its.size<=sizeLine/\Vals xs its.toList
def KL (K:PySem.W.Frag) (a:Addr) (xs:List V):Prop :=
 ∃ (o:Obj) (its:Array Value) (n:Nat),K.lookup a=some o/\o.cls=.type "list"/\o.dict=none/\o.data=.seq its n/\its.size<=sizeLine/\Vals xs its.toList
def zE (H:Hp) (a:Addr) (ks:List (List Key)) (tk:Bool) (vs:List V):Prop:=match tk with
 | true=>∃ ws,Rd H a (.dT ws)/\ks=ws.map (·.1)/\vs=ws.map (·.2)
 | false=>∃ ws,Rd H a (.dK ws)/\ks=ws.map (fun p=>[p.1])/\vs=ws.map (·.2)
mutual
def aJ (K:PySem.W.Frag) (H:Hp) (M:aF):U->V->Prop
 | .non,v=>v=.non
 | .bl b,v=>v=.bl b
 | .int i,v=>v=.int i
 | .str x,v=>v=.str x
 | .ty n,v=>v=.ty n
 | .ref a,v=>v=.ref a
 | .tup us,v=>∃ a vs,v=.ref a/\(M a=none/\H a=some (.tup vs))/\aK K H M us vs
 | .dic ks tk us,v=>∃ a vs,v=.ref a/\M a=none/\zE H a ks tk vs/\aK K H M us vs
 | .lst us,v=>∃ a vs,v=.ref a/\((M a=none/\Rd H a (.lst vs))\/KL K a vs)/\aK K H M us vs
def aK (K:PySem.W.Frag) (H:Hp) (M:aF):List U->List V->Prop
 | [],vs=>vs=[]
 | u :: us,vs=>∃ v vs',vs=v :: vs'/\aJ K H M u v/\aK K H M us vs'
end
def tX:HO->Bool
 | .dK _=>true
 | .dT _=>true
 | _=>false
def aS (H:Hp) (M:aF) (H1:Hp) (M1:aF):Prop:=∀ b o,H b=some o->M b=none->(H1 b=some o\/(tX o=true/\∃ ob,H1 b=some (.frz ob o)))/\M1 b=none
theorem aS.by' {H H1:Hp} {M M1:aF} (h:∀ b o,H b=some o->M b=none->H1 b=some o/\M1 b=none):aS H M H1 M1:=fun b o e m=>⟨.inl (h b o e m).1,(h b o e m).2⟩
theorem aS.to {H H1:Hp} {M M1:aF} (st:aS H M H1 M1) {b:Addr} {o:HO} (e:H b=some o) (m:M b=none) (n:tX o=false:=by rfl):H1 b=some o/\M1 b=none:=by
 obtain ⟨h | ⟨h,_⟩,m1⟩:=st b o e m
 ·exact ⟨h,m1⟩
 ·rw [n] at h;cases h
theorem aS.refl (H:Hp) (M:aF):aS H M H M:=.by' fun _ _ h m=>⟨h,m⟩
theorem aS.trans {H H1 H2:Hp} {M M1 M2:aF} (a:aS H M H1 M1) (b:aS H1 M1 H2 M2):aS H M H2 M2:=fun c o h m=>by
 obtain ⟨h1 | ⟨d,ob,h1⟩,m1⟩:=a c o h m
 ·exact b c o h1 m1
 ·obtain ⟨h2,m2⟩:=b.to h1 m1
  exact ⟨.inr ⟨d,ob,h2⟩,m2⟩
theorem Rd.stp {H H1:Hp} {M M1:aF} {a:Addr} {u:HO} (st:aS H M H1 M1) (m:M a=none) (h:Rd H a u):M1 a=none/\Rd H1 a u:=by
 rcases h with h | ⟨o,h⟩
 ·obtain ⟨x | ⟨_,ob,x⟩,y⟩:=st a _ h m
  ·exact ⟨y,.inl x⟩
  ·exact ⟨y,.inr ⟨ob,x⟩⟩
 ·obtain ⟨x,y⟩:=st.to h m;exact ⟨y,.inr ⟨o,x⟩⟩
theorem zE.stp {H H1:Hp} {M M1:aF} {a:Addr} {ks:List (List Key)} {tk:Bool} {vs:List V} (st:aS H M H1 M1) (m:M a=none) (h:zE H a ks tk vs):M1 a=none/\zE H1 a ks tk vs:=by
 cases tk with
 | true=>obtain ⟨ws,e,r⟩:=h;exact ⟨(Rd.stp st m e).1,ws,(Rd.stp st m e).2,r⟩
 | false=>obtain ⟨ws,e,r⟩:=h;exact ⟨(Rd.stp st m e).1,ws,(Rd.stp st m e).2,r⟩
mutual
theorem aJ.stp {K:PySem.W.Frag} {H H1:Hp} {M M1:aF} (st:aS H M H1 M1):∀ {u:U} {v:V},aJ K H M u v->aJ K H1 M1 u v
 | .non,_,h=>by simpa only [aJ] using h
 | .bl _,_,h=>by simpa only [aJ] using h
 | .int _,_,h=>by simpa only [aJ] using h
 | .str _,_,h=>by simpa only [aJ] using h
 | .ty _,_,h=>by simpa only [aJ] using h
 | .ref _,_,h=>by simpa only [aJ] using h
 | .tup us,_,h=>by
  simp only [aJ] at h ⊢
  obtain ⟨a,vs,e,h1,h2⟩:=h
  refine ⟨a,vs,e,?_,aK.stp st h2⟩
  obtain ⟨m,r⟩:=h1
  exact ⟨(st.to r m).2,(st.to r m).1⟩
 | .dic ks tk us,_,h=>by
  simp only [aJ] at h ⊢
  obtain ⟨a,vs,e,m,h1,h2⟩:=h
  have q:=zE.stp st m h1
  exact ⟨a,vs,e,q.1,q.2,aK.stp st h2⟩
 | .lst us,_,h=>by
  simp only [aJ] at h ⊢
  obtain ⟨a,vs,e,h1,h2⟩:=h
  refine ⟨a,vs,e,?_,aK.stp st h2⟩
  rcases h1 with ⟨m,r⟩ | k
  ·exact .inl (Rd.stp st m r)
  ·exact .inr k
theorem aK.stp {K:PySem.W.Frag} {H H1:Hp} {M M1:aF} (st:aS H M H1 M1):∀ {us:List U} {vs:List V},aK K H M us vs->aK K H1 M1 us vs
 | [],_,h=>by simpa only [aK] using h
 | u :: us,_,h=>by
  simp only [aK] at h ⊢
  obtain ⟨v,vs',e,h1,h2⟩:=h
  exact ⟨v,vs',e,aJ.stp st h1,aK.stp st h2⟩
end
theorem aS.less {H:Hp} {M M1:aF} (h:∀ b,M b=none->M1 b=none):aS H M H M1:=.by' fun b o e m=>⟨e,h b m⟩
def cO {κ:Type} (K:PySem.W.Frag) (H:Hp) (M:aF):List (κ × U)->List (κ × V)->Prop:=Paired fun p q=>p.1=q.1/\aJ K H M p.2 q.2
theorem cO.stp {κ:Type} {K:PySem.W.Frag} {H H1:Hp} {M M1:aF} (st:aS H M H1 M1):∀ {us:List (κ × U)} {vs:List (κ × V)},cO K H M us vs->cO K H1 M1 us vs
 | _,_,.nil=>.nil
 | _,_,.cons h t=>.cons ⟨h.1,h.2.stp st⟩ (cO.stp st t)
def yN (K:PySem.W.Frag) (H:Hp) (M:aF) (a:Addr):MO->Prop
 | .lst us=>∃ vs,H a=some (.lst vs)/\aK K H M us vs
 | .dK kvs=>∃ ws,H a=some (.dK ws)/\cO K H M kvs ws
 | .dT kvs=>∃ ws,H a=some (.dT ws)/\cO K H M kvs ws
 | .dN kvs=>∃ ws,H a=some (.dN ws)/\cO K H M kvs ws
 | .tbl q=>(∀ b,M b=some (.tbl q)->b=a)/\∃ ps,H a=some (.tbl ps)/\TriplesOk ps.toList/\∀ pos c,codeAmong pos ps.toList=some c->∃ c' oc vs t,c=.ref c'/\H c'=some (.frz oc (.own 0))/\M c'=none/\oc.data=.fields vs/\vs[1]?=some (.str q t)
def RelM (K:PySem.W.Frag) (H:Hp) (M:aF):Prop:=∀ a mo,M a=some mo->yN K H M a mo
theorem yN.stp {K:PySem.W.Frag} {H H1:Hp} {M M1:aF} {a:Addr} {mo:MO} (hu:∀ b q,M1 b=some (.tbl q)->M b=some (.tbl q)) (st:aS H M H1 M1) (e:H1 a=H a) (h:yN K H M a mo):yN K H1 M1 a mo:=by
 cases mo with
 | lst us=>obtain ⟨vs,x,y⟩:=h;exact ⟨vs,e.trans x,y.stp st⟩
 | dK us=>obtain ⟨vs,x,y⟩:=h;exact ⟨vs,e.trans x,y.stp st⟩
 | dT us=>obtain ⟨vs,x,y⟩:=h;exact ⟨vs,e.trans x,y.stp st⟩
 | dN us=>obtain ⟨vs,x,y⟩:=h;exact ⟨vs,e.trans x,y.stp st⟩
 | tbl q =>
  obtain ⟨un,ps,x,y,z⟩:=h
  refine ⟨fun b hb=>un b (hu b q hb),ps,e.trans x,y,fun pos c hc=>?_⟩
  obtain ⟨c',oc,vs,t,h1,h2,h3,h4⟩:=z pos c hc
  exact ⟨c',oc,vs,t,h1,(st.to h2 h3).1,(st.to h2 h3).2,h4⟩
theorem RelM.ex {K:PySem.W.Frag} {H:Hp} {M:aF} (r:RelM K H M) {a:Addr} {mo:MO} (h:M a=some mo):∃ o,H a=some o:=by
 have:=r a mo h
 cases mo with
 | lst us=>obtain ⟨vs,x,y⟩:=this;exact ⟨_,x⟩
 | dK us=>obtain ⟨vs,x,y⟩:=this;exact ⟨_,x⟩
 | dT us=>obtain ⟨vs,x,y⟩:=this;exact ⟨_,x⟩
 | dN us=>obtain ⟨vs,x,y⟩:=this;exact ⟨_,x⟩
 | tbl q=>obtain ⟨_,ps,x,_⟩:=this;exact ⟨_,x⟩
theorem RelM.no {K:PySem.W.Frag} {H:Hp} {M:aF} (r:RelM K H M) {a:Addr} (h:H a=none):M a=none:=by
 cases e:M a with
 | none=>rfl
 | some mo=>obtain ⟨o,q⟩:=r.ex e;rw [h] at q;cases q
theorem aS.laid {K:PySem.W.Frag} {H:Hp} {M:aF} {p:Addr} {o:HO} (r:RelM K H M) (h:H p=none):aS H M (upd H p o) M:=.by' fun b u e m=>⟨by rw [bL (cN e h)];exact e,m⟩
theorem RelM.laid {K:PySem.W.Frag} {H:Hp} {M:aF} {p:Addr} {o:HO} (r:RelM K H M) (h:H p=none):RelM K (upd H p o) M:=fun a mo e=>by
 obtain ⟨u,q⟩:=r.ex e
 exact (r a mo e).stp (fun _ _ z=>z) (aS.laid r h) (bL (cN q h))
theorem aS.own {K:PySem.W.Frag} {H:Hp} {M:aF} {p:Addr} {o:HO} {mo:MO} (r:RelM K H M) (h:H p=none):aS H M (upd H p o) (mup M p mo):=.by' fun b u e m=>by
 have n:=cN e h
 exact ⟨by rw [bL n];exact e,by rw [aO n];exact m⟩
theorem RelM.put {K:PySem.W.Frag} {H:Hp} {M:aF} {p:Addr} {o:HO} {mo:MO} (r:RelM K H M) (st:aS H M (upd H p o) (mup M p mo)) (new:yN K (upd H p o) (mup M p mo) p mo) (hm:∀ q,mo≠.tbl q:=by intro q z;cases z):RelM K (upd H p o) (mup M p mo):=fun a m e=>by
 by_cases ha:a=p
 ·subst ha;rw [aH] at e;cases e;exact new
 ·rw [aO ha] at e
  refine (r a m e).stp (fun b q z=>?_) st (bL ha)
  by_cases hb:b=p
  ·subst hb;rw [aH] at z;exact absurd (Option.some.inj z) (hm q)
  ·rw [aO hb] at z;exact z
theorem aS.write {H:Hp} {M:aF} {p:Addr} {o:HO} {mo m0:MO} (h:M p=some m0):aS H M (upd H p o) (mup M p mo):=.by' fun b u e m=>by
 have n:b≠p:=fun z=>by subst z;rw [h] at m;cases m
 exact ⟨by rw [bL n];exact e,by rw [aO n];exact m⟩
section
variable {K:PySem.W.Frag} {H:Hp} {M:aF}
theorem aK.nil:aK K H M [] []:=by simp only [aK]
theorem aK.cons {u:U} {v:V} {us:List U} {vs:List V} (h:aJ K H M u v) (t:aK K H M us vs):aK K H M (u :: us) (v :: vs):=by simp only [aK];exact ⟨v,vs,rfl,h,t⟩
theorem aK.length:∀ {us:List U} {vs:List V},aK K H M us vs->us.length=vs.length
 | [],_,h=>by simp only [aK] at h;subst h;rfl
 | u :: us,_,h=>by
  simp only [aK] at h
  obtain ⟨v,vs',rfl,_,t⟩:=h
  simp [aK.length t]
theorem aK.inv_cons {u:U} {us:List U} {vs:List V} (h:aK K H M (u :: us) vs):∃ v vs',vs=v :: vs'/\aJ K H M u v/\aK K H M us vs':=by simpa only [aK] using h
theorem aK.inv_nil {vs:List V} (h:aK K H M [] vs):vs=[]:=by simpa only [aK] using h
theorem aK.append:∀ {us ws:List U} {vs zs:List V},aK K H M us vs->aK K H M ws zs->aK K H M (us++ws) (vs++zs)
 | [],_,_,_,h,t=>by cases h.inv_nil;exact t
 | u :: us,_,_,_,h,t=>by
  obtain ⟨v,vs',rfl,a,b⟩:=h.inv_cons
  exact .cons a (aK.append b t)
theorem aK.get:∀ {us:List U} {vs:List V} {i:Nat} {u:U},aK K H M us vs->us[i]?=some u->∃ v,vs[i]?=some v/\aJ K H M u v
 | [],_,_,_,_,e=>by simp at e
 | u :: us,_,0,_,h,e=>by
  obtain ⟨v,vs',rfl,a,b⟩:=h.inv_cons
  simp at e;subst e;exact ⟨v,rfl,a⟩
 | u :: us,_,i + 1,_,h,e=>by
  obtain ⟨v,vs',rfl,a,b⟩:=h.inv_cons
  simp at e
  obtain ⟨w,x,y⟩:=aK.get b e
  exact ⟨w,by simpa using x,y⟩
theorem aK.drop:∀ {us:List U} {vs:List V} (n:Nat),aK K H M us vs->aK K H M (us.drop n) (vs.drop n)
 | _,_,0,h=>h
 | [],_,_ + 1,h=>by cases h.inv_nil;exact .nil
 | u :: us,_,n + 1,h=>by
  obtain ⟨v,vs',rfl,a,b⟩:=h.inv_cons
  exact aK.drop n b
theorem aK.take:∀ {us:List U} {vs:List V} (n:Nat),aK K H M us vs->aK K H M (us.take n) (vs.take n)
 | _,_,0,_=>by simp only [List.take_zero];exact .nil
 | [],_,_ + 1,h=>by cases h.inv_nil;exact .nil
 | u :: us,_,n + 1,h=>by
  obtain ⟨v,vs',rfl,a,b⟩:=h.inv_cons
  exact .cons a (aK.take n b)
theorem aK.set {u:U} {v:V} (r:aJ K H M u v):∀ {us:List U} {vs:List V} (i:Nat),aK K H M us vs->aK K H M (us.set i u) (vs.set i v)
 | [],_,_,h=>by cases h.inv_nil;exact .nil
 | w :: us,_,0,h=>by
  obtain ⟨z,vs',rfl,a,b⟩:=h.inv_cons
  exact .cons r b
 | w :: us,_,i + 1,h=>by
  obtain ⟨z,vs',rfl,a,b⟩:=h.inv_cons
  exact .cons a (aK.set r i b)
end
abbrev SU:=List (Option U)
abbrev UK:=U->aF->Prop
abbrev UE:=SU->aF->UK->Prop
abbrev UT:=SU->aF->(Bool->aF->Prop)->Prop
abbrev UA:=SU->aF->(List U->aF->Prop)->Prop
structure qB where
 nx:SU->aF->Prop
 rt:UK
 bk:SU->aF->Prop:=fun _ _=>False
 ct:SU->aF->Prop:=fun _ _=>False
abbrev US:=qB->SU->aF->Prop
def eP (K:PySem.W.Frag) (H:Hp) (M:aF) (σ:St) (τ:SU):Prop:=τ.length=σ.length/\∀ (i:Nat) u,τ[i]?=some (some u)->∃ v,σ[i]?=some (some v)/\aJ K H M u v
theorem eP.stp {K:PySem.W.Frag} {H H1:Hp} {M M1:aF} {σ:St} {τ:SU} (st:aS H M H1 M1) (r:eP K H M σ τ):eP K H1 M1 σ τ:=⟨r.1,fun i u e=>let ⟨v,a,b⟩:=r.2 i u e;⟨v,a,b.stp st⟩⟩
theorem eP.set {K:PySem.W.Frag} {H:Hp} {M:aF} {σ:St} {τ:SU} {i:Nat} {u:U} {v:V} (r:eP K H M σ τ) (h:aJ K H M u v):eP K H M (σ.set i (some v)) (τ.set i (some u)):=by
 refine ⟨by simp [r.1],fun j w e=>?_⟩
 rw [List.getElem?_set] at e ⊢
 split at e
 ·rename_i hij
  subst hij
  split at e
  ·rename_i hl
   cases e
   rw [if_pos rfl,if_pos (by rw [<- r.1];exact hl)]
   exact ⟨v,rfl,h⟩
  ·cases e
 ·rename_i hij
  rw [if_neg hij]
  exact r.2 j w e
def cI (K:PySem.W.Frag) (t:TE) (t':UE):Prop:=∀ (σ:St) (τ:SU) (H:Hp) (M:aF) (Q':UK),eP K H M σ τ->RelM K H M->t' τ M Q' ->
 ∀ Q:VK,(∀ u v M1 H1,aS H M H1 M1->RelM K H1 M1->aJ K H1 M1 u v->Q' u M1->Q v H1)->t σ H Q
def j0 (K:PySem.W.Frag) (t:TT) (t':UT):Prop:=∀ (σ:St) (τ:SU) (H:Hp) (M:aF) (Q':Bool->aF->Prop),eP K H M σ τ->RelM K H M->t' τ M Q' ->
 ∀ Q:Bool->Hp->Prop,(∀ b M1 H1,aS H M H1 M1->RelM K H1 M1->Q' b M1->Q b H1)->t σ H Q
def kE (K:PySem.W.Frag) (t:TA) (t':UA):Prop:=∀ (σ:St) (τ:SU) (H:Hp) (M:aF) (Q':List U->aF->Prop),eP K H M σ τ->RelM K H M->t' τ M Q' ->
 ∀ Q:List V->Hp->Prop,(∀ us vs M1 H1,aS H M H1 M1->RelM K H1 M1->aK K H1 M1 us vs->Q' us M1->Q vs H1)->t σ H Q
structure FQ (K:PySem.W.Frag) (H:Hp) (M:aF) (D:Ends) (D':qB):Prop where
 nx:∀ σ τ H1 M1,aS H M H1 M1->RelM K H1 M1->eP K H1 M1 σ τ->D'.nx τ M1->D.nx σ H1
 rt:∀ u v H1 M1,aS H M H1 M1->RelM K H1 M1->aJ K H1 M1 u v->D'.rt u M1->D.rt v H1
 bk:∀ σ τ H1 M1,aS H M H1 M1->RelM K H1 M1->eP K H1 M1 σ τ->D'.bk τ M1->D.bk σ H1
 ct:∀ σ τ H1 M1,aS H M H1 M1->RelM K H1 M1->eP K H1 M1 σ τ->D'.ct τ M1->D.ct σ H1
theorem FQ.stp {K:PySem.W.Frag} {H H1:Hp} {M M1:aF} {D:Ends} {D':qB} (d:FQ K H M D D') (st:aS H M H1 M1):FQ K H1 M1 D D' :=
 ⟨fun σ τ H2 M2 s=>d.nx σ τ H2 M2 (st.trans s),fun u v H2 M2 s=>d.rt u v H2 M2 (st.trans s),fun σ τ H2 M2 s=>d.bk σ τ H2 M2 (st.trans s),fun σ τ H2 M2 s=>d.ct σ τ H2 M2 (st.trans s)⟩
def kT (K:PySem.W.Frag) (t:TS) (t':US):Prop:=∀ (σ:St) (τ:SU) (H:Hp) (M:aF) (D':qB),eP K H M σ τ->RelM K H M->t' D' τ M->∀ D:Ends,FQ K H M D D'->t D σ H
end U2
namespace U2
open PySem L2
abbrev dR:=U->U->aF->UK->Prop
def eE (K:PySem.W.Frag) (H:Hp) (M:aF) (Q':UK) (Q:VK):Prop:=∀ u v M1 H1,aS H M H1 M1->RelM K H1 M1->aJ K H1 M1 u v->Q' u M1->Q v H1
theorem eE.stp {K:PySem.W.Frag} {H H1:Hp} {M M1:aF} {Q':UK} {Q:VK} (c:eE K H M Q' Q) (st:aS H M H1 M1):eE K H1 M1 Q' Q:=fun u v M2 H2 s=>c u v M2 H2 (st.trans s)
theorem eE.here {K:PySem.W.Frag} {H:Hp} {M:aF} {Q':UK} {Q:VK} {u:U} {v:V} (c:eE K H M Q' Q) (rm:RelM K H M) (r:aJ K H M u v) (q:Q' u M):Q v H:=c u v M H (aS.refl H M) rm r q
def dS (K:PySem.W.Frag) (r:R2) (r':dR):Prop:=∀ (x y:V) (u w:U) (H:Hp) (M:aF) (Q':UK),RelM K H M->aJ K H M u x->aJ K H M w y->r' u w M Q'->∀ Q:VK,eE K H M Q' Q->r x y H Q
def vK (K:PySem.W.Frag) (r:List V->Hp->VK->Prop) (r':List U->aF->UK->Prop):Prop:=∀ (xs:List V) (us:List U) (H:Hp) (M:aF) (Q':UK),RelM K H M->aK K H M us xs->r' us M Q'->∀ Q:VK,eE K H M Q' Q->r xs H Q
def zL (K:PySem.W.Frag) (r:V->List V->Hp->VK->Prop) (r':U->List U->aF->UK->Prop):Prop:=∀ (x:V) (xs:List V) (u:U) (us:List U) (H:Hp) (M:aF) (Q':UK),RelM K H M->aJ K H M u x->aK K H M us xs->r' u us M Q'->∀ Q:VK,eE K H M Q' Q->r x xs H Q
section
variable {K:PySem.W.Frag} {H:Hp} {M:aF} {v:V}
theorem aJ.non (h:aJ K H M .non v):v=.non:=by simpa only [aJ] using h
theorem aJ.bl {b:Bool} (h:aJ K H M (.bl b) v):v=.bl b:=by simpa only [aJ] using h
theorem aJ.int {i:Int} (h:aJ K H M (.int i) v):v=.int i:=by simpa only [aJ] using h
theorem aJ.str {x:Str} (h:aJ K H M (.str x) v):v=.str x:=by simpa only [aJ] using h
theorem aJ.ty {n:String} (h:aJ K H M (.ty n) v):v=.ty n:=by simpa only [aJ] using h
theorem aJ.ref {a:Addr} (h:aJ K H M (.ref a) v):v=.ref a:=by simpa only [aJ] using h
theorem aJ.tup {us:List U} (h:aJ K H M (.tup us) v):∃ a vs,v=.ref a/\eW K H a vs/\aK K H M us vs:=by
 simp only [aJ] at h
 obtain ⟨a,vs,e,h1,h2⟩:=h
 refine ⟨a,vs,e,?_,h2⟩
 exact .inl (.inl h1.2)
theorem aJ.lst {us:List U} (h:aJ K H M (.lst us) v):∃ a vs,v=.ref a/\dY K H a vs/\aK K H M us vs:=by
 simp only [aJ] at h
 obtain ⟨a,vs,e,h1,h2⟩:=h
 refine ⟨a,vs,e,?_,h2⟩
 rcases h1 with ⟨_,r⟩ | k
 ·exact .inl r
 ·exact .inr k
theorem mV:aJ K H M .non .non:=by simp only [aJ]
theorem dI {b:Bool}:aJ K H M (.bl b) (.bl b):=by simp only [aJ]
theorem eJ {i:Int}:aJ K H M (.int i) (.int i):=by simp only [aJ]
theorem mU {x:Str}:aJ K H M (.str x) (.str x):=by simp only [aJ]
theorem Nn {n:String}:aJ K H M (.ty n) (.ty n):=by simp only [aJ]
theorem lI {a:Addr}:aJ K H M (.ref a) (.ref a):=by simp only [aJ]
theorem xP {a:Addr} {us:List U} {vs:List V} (m:M a=none) (h:H a=some (.tup vs)) (r:aK K H M us vs):aJ K H M (.tup us) (.ref a):=by
 simp only [aJ];exact ⟨a,vs,rfl,⟨m,h⟩,r⟩
theorem sJ {a:Addr} {us:List U} {vs:List V} (m:M a=none) (h:H a=some (.lst vs)) (r:aK K H M us vs):aJ K H M (.lst us) (.ref a):=by
 simp only [aJ];exact ⟨a,vs,rfl,.inl ⟨m,.inl h⟩,r⟩
theorem eE.tup {Q':UK} {Q:VK} {us:List U} {vs:List V} {p:Addr} (c:eE K H M Q' Q) (rm:RelM K H M) (r:aK K H M us vs) (hp:H p=none) (q:Q' (.tup us) M):Q (.ref p) (upd H p (.tup vs)) :=
 c _ _ M _ (aS.laid rm hp) (rm.laid hp) (xP (rm.no hp) cT (r.stp (aS.laid rm hp))) q
def jQ (o:Bool) (us:List U) (M:aF) (Q:UK):Prop:=match o with
 | true=>∀ p,M p=none->Q (.ref p) (mup M p (.lst us))
 | false=>Q (.lst us) M
theorem eE.lst {o:Bool} {Q':UK} {Q:VK} {us:List U} {vs:List V} {p:Addr} (c:eE K H M Q' Q) (rm:RelM K H M) (r:aK K H M us vs) (hp:H p=none) (q:jQ o us M Q'):Q (.ref p) (upd H p (.lst vs)):=by
 cases o with
 | false=>exact c _ _ M _ (aS.laid rm hp) (rm.laid hp) (sJ (rm.no hp) cT (r.stp (aS.laid rm hp))) q
 | true =>
  have st:aS H M (upd H p (.lst vs)) (mup M p (.lst us)):=aS.own rm hp
  exact c (.ref p) _ _ _ st (rm.put st ⟨vs,cT,r.stp st⟩) lI (q p (rm.no hp))
end
def view (M:aF):U->U
 | .ref a=>match M a with
  | some (.lst us)=>.lst us
  | _=>.ref a
 | u=>u
theorem jE {M:aF} {a:Addr} {us:List U} (h:M a=some (.lst us)):view M (.ref a)=.lst us:=by simp only [view,h]
theorem dZ {K:PySem.W.Frag} {H:Hp} {M:aF} {u:U} {v:V} {us:List U} (rm:RelM K H M) (r:aJ K H M u v) (h:view M u=.lst us):∃ a vs,v=.ref a/\dY K H a vs/\aK K H M us vs:=by
 cases u with
 | lst ws=>simp only [view] at h;cases h;exact r.lst
 | ref a =>
  simp only [view] at h
  split at h
  ·rename_i ws e
   cases h
   obtain ⟨vs,h1,h2⟩:=rm a _ e
   exact ⟨a,vs,r.ref,.inl (.inl h1),h2⟩
  ·cases h
 | _=>simp [view] at h
section
variable {K:PySem.W.Frag} {t ta tb tc:TE} {t' ta' tb' tc':UE}
def o5 (i:Nat):UE:=fun τ M Q=>match τ[i]? with
 | some (some u)=>Q u M
 | _=>False
theorem En (i:Nat):cI K (K1 i) (o5 i):=fun σ τ H M Q' rs rm h Q c=>by
 unfold o5 at h
 split at h
 ·rename_i u e
  obtain ⟨v,e2,r⟩:=rs.2 i u e
  exact ⟨v,e2,c u v M H (aS.refl _ _) rm r h⟩
 ·exact h.elim
def uC (u:U):UE:=fun _ M Q=>Q u M
theorem vQ {u:U} {v:V} (h:∀ H M,aJ K H M u v):cI K (tC v) (uC u):=fun σ τ H M Q' rs rm q Q c=>c u v M H (aS.refl _ _) rm (h H M) q
theorem NJ {i:Int}:cI K (tC (.int i)) (uC (.int i)):=vQ fun _ _=>eJ
theorem PZ {i:Bool}:cI K (tC (.bl i)) (uC (.bl i)):=vQ fun _ _=>dI
theorem MI {i:Str}:cI K (tC (.str i)) (uC (.str i)):=vQ fun _ _=>mU
theorem Nt:cI K (tC .non) (uC .non):=vQ fun _ _=>mV
theorem Ou {n:String}:cI K (tC (.ty n)) (uC (.ty n)):=vQ fun _ _=>Nn
theorem ND {a:Addr}:cI K (tC (.ref a)) (uC (.ref a)):=vQ fun _ _=>lI
def kO (r:dR) (ta tb:UE):UE:=fun τ M Q=>ta τ M fun x M1=>tb τ M1 fun y M2=>r x y M2 Q
theorem vG {r:R2} {r':dR} (hr:dS K r r') (ha:cI K ta ta') (hb:cI K tb tb'):cI K (Ed r ta tb) (kO r' ta' tb'):=fun σ τ H M Q' rs rm h Q c =>
 ha σ τ H M _ rs rm h _ fun u v M1 H1 s1 rm1 ru h1=>hb σ τ H1 M1 _ (rs.stp s1) rm1 h1 _ fun w x M2 H2 s2 rm2 rw h2=>hr v x u w H2 M2 Q' rm2 (ru.stp s2) rw h2 Q (eE.stp c (s1.trans s2))
def Ct (r:U->aF->UK->Prop) (ta:UE):UE:=fun τ M Q=>ta τ M fun x M1=>r x M1 Q
def lR (t:UE):UT:=fun τ M Q=>t τ M fun u M1=>match u with
 | .bl b=>Q b M1
 | _=>False
theorem CT (h:cI K t t'):j0 K (FF t) (lR t'):=fun σ τ H M Q' rs rm q Q c=>h σ τ H M _ rs rm q _ fun u v M1 H1 s1 rm1 ru h1=>by
 cases u with
 | bl b=>exact ⟨b,ru.bl,c b M1 H1 s1 rm1 h1⟩
 | _=>exact h1.elim
def tG (t:UE):UT:=fun τ M Q=>t τ M fun u M1=>match view M1 u with
 | .non=>Q false M1
 | .bl b=>Q b M1
 | .int i=>Q (i != 0) M1
 | .str x=>x.length<=sizeLine/\Q ((x.length:Int) != 0) M1
 | .tup us=>Q (!us.isEmpty) M1
 | .lst us=>Q (!us.isEmpty) M1
 | _=>False
theorem wV {H:Hp} {M:aF} {us:List U} {vs:List V} (r:aK K H M us vs):us.isEmpty=vs.isEmpty:=by
 have:=r.length
 cases us <;> cases vs <;> simp_all
theorem LU (h:cI K t t'):j0 K (fun σ H Q=>t σ H fun x H'=>∃ k,JO K x H' k/\Q k H') (tG t'):=fun σ τ H M Q' rs rm q Q c=>h σ τ H M _ rs rm q _ fun u v M1 H1 s1 rm1 ru h1=>by
 split at h1
 ·rename_i e
  cases u with
  | non=>exact ⟨false,by rw [ru.non];rfl,c _ M1 H1 s1 rm1 h1⟩
  | ref a=>simp only [view] at e;split at e <;> cases e
  | _=>simp [view] at e
 ·rename_i b e
  cases u with
  | bl b'=>simp only [view] at e;cases e;exact ⟨b,by rw [ru.bl];rfl,c _ M1 H1 s1 rm1 h1⟩
  | ref a=>simp only [view] at e;split at e <;> cases e
  | _=>simp [view] at e
 ·rename_i b e
  cases u with
  | int b'=>simp only [view] at e;cases e;exact ⟨b != 0,by rw [ru.int];rfl,c _ M1 H1 s1 rm1 h1⟩
  | ref a=>simp only [view] at e;split at e <;> cases e
  | _=>simp [view] at e
 ·rename_i b e
  cases u with
  | str b'=>simp only [view] at e;cases e;exact ⟨(b.length:Int) != 0,by rw [ru.str];exact ⟨h1.1,rfl⟩,c _ M1 H1 s1 rm1 h1.2⟩
  | ref a=>simp only [view] at e;split at e <;> cases e
  | _=>simp [view] at e
 ·rename_i us e
  cases u with
  | tup us' =>
   simp only [view] at e;cases e
   obtain ⟨a,vs,rfl,r1,r2⟩:=ru.tup
   exact ⟨!vs.isEmpty,.inr (.inl ⟨vs,r1,rfl⟩),c _ M1 H1 s1 rm1 (by rw [<- wV r2];exact h1)⟩
  | ref a=>simp only [view] at e;split at e <;> cases e
  | _=>simp [view] at e
 ·rename_i us e
  obtain ⟨a,vs,rfl,r1,r2⟩:=dZ rm1 ru e
  exact ⟨!vs.isEmpty,.inl ⟨vs,r1,rfl⟩,c _ M1 H1 s1 rm1 (by rw [<- wV r2];exact h1)⟩
 ·exact h1.elim
def tE (t u:UT):UT:=fun τ M Q=>t τ M fun c M1=>if c=true then u τ M1 Q else Q false M1
def yK (t u:UT):UT:=fun τ M Q=>t τ M fun c M1=>if c=true then Q true M1 else u τ M1 Q
def tI (t:UT):UT:=fun τ M Q=>t τ M fun c M1=>Q (!c) M1
theorem Mf {t u:TT} {t' u':UT} (h:j0 K t t') (k:j0 K u u'):j0 K (Oc t u) (tE t' u'):=fun σ τ H M Q' rs rm q Q c=>h σ τ H M _ rs rm q _ fun b M1 H1 s1 rm1 h1=>by
 cases b with
 | true=>exact k σ τ H1 M1 Q' (rs.stp s1) rm1 h1 Q fun b M2 H2 s2=>c b M2 H2 (s1.trans s2)
 | false=>exact c _ M1 H1 s1 rm1 h1
theorem Oq {t u:TT} {t' u':UT} (h:j0 K t t') (k:j0 K u u'):j0 K (QZ t u) (yK t' u'):=fun σ τ H M Q' rs rm q Q c=>h σ τ H M _ rs rm q _ fun b M1 H1 s1 rm1 h1=>by
 cases b with
 | false=>exact k σ τ H1 M1 Q' (rs.stp s1) rm1 h1 Q fun b M2 H2 s2=>c b M2 H2 (s1.trans s2)
 | true=>exact c _ M1 H1 s1 rm1 h1
theorem Mb {t:TT} {t':UT} (h:j0 K t t'):j0 K (Pg t) (tI t'):=fun σ τ H M Q' rs rm q Q c=>h σ τ H M _ rs rm q _ fun b M1 H1 s1 rm1 h1=>c _ M1 H1 s1 rm1 h1
def nZ (ta tb:UE):UE:=fun τ M Q=>ta τ M fun x M1=>match x with
 | .bl c=>if c=true then tb τ M1 Q else Q (.bl false) M1
 | _=>False
def sM (ta tb:UE):UE:=fun τ M Q=>ta τ M fun x M1=>match x with
 | .bl c=>if c=true then Q (.bl true) M1 else tb τ M1 Q
 | _=>False
def oF (ta:UE):UE:=fun τ M Q=>ta τ M fun x M1=>match x with
 | .bl c=>Q (.bl (!c)) M1
 | _=>False
theorem JG (h:cI K ta ta') (k:cI K tb tb'):cI K (LH ta tb) (nZ ta' tb'):=fun σ τ H M Q' rs rm q Q c=>h σ τ H M _ rs rm q _ fun u v M1 H1 s1 rm1 ru h1=>by
 cases u with
 | bl b =>
  refine ⟨b,ru.bl,?_⟩
  cases b with
  | true=>exact k σ τ H1 M1 Q' (rs.stp s1) rm1 h1 Q (eE.stp c s1)
  | false=>exact c _ _ M1 H1 s1 rm1 dI h1
 | _=>exact h1.elim
theorem M8 (h:cI K ta ta') (k:cI K tb tb'):cI K (OZ ta tb) (sM ta' tb'):=fun σ τ H M Q' rs rm q Q c=>h σ τ H M _ rs rm q _ fun u v M1 H1 s1 rm1 ru h1=>by
 cases u with
 | bl b =>
  refine ⟨b,ru.bl,?_⟩
  cases b with
  | false=>exact k σ τ H1 M1 Q' (rs.stp s1) rm1 h1 Q (eE.stp c s1)
  | true=>exact c _ _ M1 H1 s1 rm1 dI h1
 | _=>exact h1.elim
theorem KJ (h:cI K ta ta'):cI K (Lz ta) (oF ta'):=fun σ τ H M Q' rs rm q Q c=>h σ τ H M _ rs rm q _ fun u v M1 H1 s1 rm1 ru h1=>by
 cases u with
 | bl b=>exact ⟨b,ru.bl,c _ _ M1 H1 s1 rm1 dI h1⟩
 | _=>exact h1.elim
def zA (t:UT) (ta tb:UE):UE:=fun τ M Q=>t τ M fun c M1=>if c=true then ta τ M1 Q else tb τ M1 Q
theorem Pe {t:TT} {t':UT} (h:j0 K t t') (k:cI K ta ta') (l:cI K tb tb'):cI K (QS t ta tb) (zA t' ta' tb'):=fun σ τ H M Q' rs rm q Q c=>h σ τ H M _ rs rm q _ fun b M1 H1 s1 rm1 h1=>by
 cases b with
 | true=>exact k σ τ H1 M1 Q' (rs.stp s1) rm1 h1 Q (eE.stp c s1)
 | false=>exact l σ τ H1 M1 Q' (rs.stp s1) rm1 h1 Q (eE.stp c s1)
def k5 (r r':dR) (ta tb tc:UE):UE:=fun τ M Q=>ta τ M fun x M1=>tb τ M1 fun y M2=>r x y M2 fun z M3=>match z with
 | .bl k=>if k=true then tc τ M3 fun w M4=>r' y w M4 Q else Q (.bl false) M3
 | _=>False
theorem Bj {r r':R2} {s s':dR} (hr:dS K r s) (hr':dS K r' s') (ha:cI K ta ta') (hb:cI K tb tb') (hc:cI K tc tc'):cI K (C2 r r' ta tb tc) (k5 s s' ta' tb' tc'):=fun σ τ H M Q' rs rm h Q c =>
 ha σ τ H M _ rs rm h _ fun u v M1 H1 s1 rm1 ru h1=>hb σ τ H1 M1 _ (rs.stp s1) rm1 h1 _ fun w x M2 H2 s2 rm2 rw h2 =>
  hr v x u w H2 M2 _ rm2 (ru.stp s2) rw h2 _ fun z zv M3 H3 s3 rm3 rz h3=>by
   cases z with
   | bl k =>
    refine ⟨k,rz.bl,?_⟩
    cases k with
    | true=>exact hc σ τ H3 M3 _ ((rs.stp s1).stp (s2.trans s3)) rm3 h3 _ fun w2 x2 M4 H4 s4 rm4 rw4 h4=>hr' x x2 w w2 H4 M4 Q' rm4 (rw.stp (s3.trans s4)) rw4 h4 Q (eE.stp c (((s1.trans s2).trans s3).trans s4))
    | false=>exact c _ _ M3 H3 ((s1.trans s2).trans s3) rm3 dI h3
   | _=>exact h3.elim
def tD:UA:=fun _ M Q=>Q [] M
def oB (ta:UE) (tr:UA):UA:=fun τ M Q=>ta τ M fun x M1=>tr τ M1 fun xs M2=>Q (x :: xs) M2
theorem ML:kE K Oa tD:=fun σ τ H M Q' rs rm q Q c=>c [] [] M H (aS.refl _ _) rm .nil q
theorem Ky {tr:TA} {tr':UA} (ha:cI K ta ta') (hr:kE K tr tr'):kE K (Lx ta tr) (oB ta' tr'):=fun σ τ H M Q' rs rm h Q c =>
 ha σ τ H M _ rs rm h _ fun u v M1 H1 s1 rm1 ru h1=>hr σ τ H1 M1 _ (rs.stp s1) rm1 h1 _ fun us vs M2 H2 s2 rm2 rus h2=>c (u :: us) (v :: vs) M2 H2 (s1.trans s2) rm2 (.cons (ru.stp s2) rus) h2
def sI (t:UA):UE:=fun τ M Q=>t τ M fun us M1=>us.length<=sizeLine/\Q (.tup us) M1
def tJ (o:Bool) (t:UA):UE:=fun τ M Q=>t τ M fun us M1=>us.length<=sizeLine/\jQ o us M1 Q
theorem NG {t:TA} {t':UA} (h:kE K t t'):cI K (NP t) (sI t'):=fun σ τ H M Q' rs rm q Q c =>
 h σ τ H M _ rs rm q _ fun us vs M1 H1 s1 rm1 r h1=>⟨by rw [<- r.length];exact h1.1,fun p hp=>(eE.stp c s1).tup rm1 r hp h1.2⟩
theorem MG {o:Bool} {t:TA} {t':UA} (h:kE K t t'):cI K (Pd t) (tJ o t'):=fun σ τ H M Q' rs rm q Q c =>
 h σ τ H M _ rs rm q _ fun us vs M1 H1 s1 rm1 r h1=>⟨by rw [<- r.length];exact h1.1,fun p hp=>(eE.stp c s1).lst rm1 r hp h1.2⟩
def wN (r:List U->aF->UK->Prop) (t:UA):UE:=fun τ M Q=>t τ M fun us M1=>r us M1 Q
theorem G3 {r:List V->Hp->VK->Prop} {r':List U->aF->UK->Prop} {t:TA} {t':UA} (hr:vK K r r') (h:kE K t t'):cI K (ON r t) (wN r' t'):=fun σ τ H M Q' rs rm q Q c =>
 h σ τ H M _ rs rm q _ fun us vs M1 H1 s1 rm1 ru h1=>hr vs us H1 M1 Q' rm1 ru h1 Q (eE.stp c s1)
end
end U2
namespace U2
open PySem L2
section
variable {K:PySem.W.Frag}
def oO (g:Int->Int->U):dR:=fun x y M Q=>match x,y with
 | .int i,.int j=>Q (g i j) M
 | _,_=>False
def uI (C:Int->Int->Prop) (g:Int->Int->U):dR:=fun x y M Q=>match x,y with
 | .int i,.int j=>C i j/\Q (g i j) M
 | _,_=>False
theorem GC {g:Int->Int->V} {g':Int->Int->U} (hg:∀ H M i j,aJ K H M (g' i j) (g i j)):dS K (uS g) (oO g'):=fun x y u w H M Q' rm ru rw h Q c=>by
 cases u with
 | int i=>cases w with
  | int j=>exact ⟨i,j,ru.int,rw.int,c _ _ M H (aS.refl _ _) rm (hg H M i j) h⟩
  | _=>exact h.elim
 | _=>exact h.elim
theorem Ql {C:Int->Int->Prop} {g:Int->Int->V} {g':Int->Int->U} (hg:∀ H M i j,aJ K H M (g' i j) (g i j)):dS K (rI C g) (uI C g'):=fun x y u w H M Q' rm ru rw h Q c=>by
 cases u with
 | int i=>cases w with
  | int j=>exact ⟨i,j,ru.int,rw.int,h.1,c _ _ M H (aS.refl _ _) rm (hg H M i j) h.2⟩
  | _=>exact h.elim
 | _=>exact h.elim
theorem BY {f:Int->Int->Int}:dS K (uS fun i j=>.int (f i j)) (oO fun i j=>.int (f i j)):=GC fun _ _ _ _=>eJ
theorem pZ {f:Int->Int->Bool}:dS K (uS fun i j=>.bl (f i j)) (oO fun i j=>.bl (f i j)):=GC fun _ _ _ _=>dI
theorem p5 {C:Int->Int->Prop} {f:Int->Int->Int}:dS K (rI C fun i j=>.int (f i j)) (uI C fun i j=>.int (f i j)):=Ql fun _ _ _ _=>eJ
def QE:dR:=fun x y M Q=>match x,y with
 | .str i,.str j=>i.length + j.length<=sizeLine/\Q (.str (i++j)) M
 | _,_=>False
theorem Jc:dS K (fun x y H Q=>∃ i j,x=.str i/\y=.str j/\i.length + j.length<=sizeLine/\Q (.str (i++j)) H) QE:=fun x y u w H M Q' rm ru rw h Q c=>by
 cases u with
 | str i=>cases w with
  | str j=>exact ⟨i,j,ru.str,rw.str,h.1,c _ _ M H (aS.refl _ _) rm mU h.2⟩
  | _=>exact h.elim
 | _=>exact h.elim
def CF (K:PySem.W.Frag):R2:=fun x y H Q=>∃ a b xs ys,x=.ref a/\y=.ref b/\eW K H a xs/\eW K H b ys/\xs.length + ys.length<=sizeLine /\
 (xs=[]->Q (.ref b) H)/\(xs≠[]->ys=[]->Q (.ref a) H)/\(xs≠[]->ys≠[]->∀ p,H p=none->Q (.ref p) (upd H p (.tup (xs++ys))))
def QJ:dR:=fun x y M Q=>match x,y with
 | .tup us,.tup ws=>us.length + ws.length<=sizeLine/\Q (.tup (us++ws)) M
 | _,_=>False
theorem JP:dS K (CF K) QJ:=fun x y u w H M Q' rm ru rw h Q c=>by
 cases u with
 | tup us=>cases w with
  | tup ws =>
   obtain ⟨h2,h3⟩:=h
   obtain ⟨a,xs,rfl,s1,r1⟩:=ru.tup
   obtain ⟨b,ys,rfl,s2,r2⟩:=rw.tup
   refine ⟨a,b,xs,ys,rfl,rfl,s1,s2,by rw [<- r1.length,<- r2.length];exact h2,fun e=>?_,fun _ e=>?_,fun _ _ p hp=>c.tup rm (r1.append r2) hp h3⟩
   ·subst e
    have e2:us=[]:=List.length_eq_zero_iff.mp r1.length
    subst e2
    exact c _ _ M H (aS.refl _ _) rm rw h3
   ·subst e
    have e2:ws=[]:=List.length_eq_zero_iff.mp r2.length
    subst e2
    exact c _ _ M H (aS.refl _ _) rm ru (by rw [List.append_nil] at h3;exact h3)
  | _=>exact h.elim
 | _=>exact h.elim
def nB (o:Bool):dR:=fun x y M Q=>match view M x,view M y with
 | .lst us,.lst ws=>us.length + ws.length<=sizeLine/\jQ o (us++ws) M Q
 | _,_=>False
def Gr (K:PySem.W.Frag):R2:=fun x y H Q=>∃ l b xs zs,x=.ref l/\y=.ref b/\dY K H l xs/\dY K H b zs/\xs.length + zs.length<=sizeLine/\∀ p,H p=none->Q (.ref p) (upd H p (.lst (xs++zs)))
theorem JE {o:Bool}:dS K (Gr K) (nB o):=fun x y u w H M Q' rm ru rw h Q c=>by
 unfold nB at h
 split at h
 ·rename_i us ws e1 e2
  obtain ⟨a,xs,rfl,s1,r1⟩:=dZ rm ru e1
  obtain ⟨b,ys,rfl,s2,r2⟩:=dZ rm rw e2
  exact ⟨a,b,xs,ys,rfl,rfl,s1,s2,by rw [<- r1.length,<- r2.length];exact h.1,fun p hp=>c.lst rm (r1.append r2) hp h.2⟩
 ·exact h.elim
theorem DV {H:Hp} {M:aF} {us:List U} {vs:List V} {i:Int} {u:U} (r:aK K H M us vs) (h:eL us i=some u):∃ v,eL vs i=some v/\aJ K H M u v:=by
 unfold eL at h ⊢
 rw [<- r.length]
 cases e:vD us.length i with
 | none=>rw [e] at h;cases h
 | some j=>rw [e] at h;exact r.get h
def w4:dR:=fun x y M Q=>match view M x,y with
 | .lst us,.int i=>∃ u,eL us i=some u/\Q u M
 | .tup us,.int i=>∃ u,eL us i=some u/\Q u M
 | .str z,.int i=>z.length<=sizeLine/\∃ c,eL z.cps.toList i=some c/\Q (.str ⟨#[c]⟩) M
 | _,_=>False
theorem pE {M:aF} {u:U} {us:List U} (h:view M u=.tup us):u=.tup us:=by
 cases u with
 | ref a=>simp only [view] at h;split at h <;> cases h
 | _=>simpa [view] using h
theorem xV {M:aF} {u:U} {x:Str} (h:view M u=.str x):u=.str x:=by
 cases u with
 | ref a=>simp only [view] at h;split at h <;> cases h
 | _=>simpa [view] using h
theorem OF:dS K (QV K) w4:=fun x y u w H M Q' rm ru rw h Q c=>by
 unfold w4 at h
 split at h
 ·rename_i us i e
  obtain ⟨z,h1,h2⟩:=h
  obtain ⟨a,xs,rfl,s1,r1⟩:=dZ rm ru e
  obtain ⟨v,h3,h4⟩:=DV r1 h1
  exact .inl ⟨a,xs,i,v,rfl,rw.int,s1,h3,c _ _ M H (aS.refl _ _) rm h4 h2⟩
 ·rename_i us i e
  obtain ⟨z,h1,h2⟩:=h
  have e':=pE e
  subst e'
  obtain ⟨a,xs,rfl,s1,r1⟩:=ru.tup
  obtain ⟨v,h3,h4⟩:=DV r1 h1
  exact .inr (.inl ⟨a,xs,i,v,rfl,rw.int,s1,h3,c _ _ M H (aS.refl _ _) rm h4 h2⟩)
 ·rename_i z i e
  obtain ⟨h0,d,h1,h2⟩:=h
  have e':=xV e
  subst e'
  exact .inr (.inr ⟨z,i,d,ru.str,rw.int,h0,h1,c _ _ M H (aS.refl _ _) rm mU h2⟩)
 ·exact h.elim
abbrev UO:=SU->aF->(Option Int->aF->Prop)->Prop
def CG (K:PySem.W.Frag) (t:TO) (t':UO):Prop:=∀ (σ:St) (τ:SU) (H:Hp) (M:aF) (Q':Option Int->aF->Prop),eP K H M σ τ->RelM K H M->t' τ M Q' ->
 ∀ Q:Option Int->Hp->Prop,(∀ o M1 H1,aS H M H1 M1->RelM K H1 M1->Q' o M1->Q o H1)->t σ H Q
def kM:UO:=fun _ M Q=>Q none M
def nU (t:UE):UO:=fun τ M Q=>t τ M fun x M1=>match x with
 | .int i=>Q (some i) M1
 | _=>False
theorem F2:CG K D9 kM:=fun σ τ H M Q' rs rm q Q c=>c none M H (aS.refl _ _) rm q
theorem Ji {t:TE} {t':UE} (h:cI K t t'):CG K (LG t) (nU t'):=fun σ τ H M Q' rs rm q Q c=>h σ τ H M _ rs rm q _ fun u v M1 H1 s1 rm1 ru h1=>by
 cases u with
 | int i=>exact ⟨i,ru.int,c _ M1 H1 s1 rm1 h1⟩
 | _=>exact h1.elim
def dB {α:Type} (xs:List α) (lo hi:Option Int):List α:=(xs.drop (HT.bP xs.length 0 lo)).take (HT.bP xs.length xs.length hi - HT.bP xs.length 0 lo)
theorem Es {H:Hp} {M:aF} {us:List U} {vs:List V} (r:aK K H M us vs) (lo hi:Option Int):aK K H M (dB us lo hi) (qV vs lo hi):=by
 unfold dB qV
 rw [r.length]
 exact (r.drop _).take _
def Pp (K:PySem.W.Frag):V->Option Int->Option Int->Hp->VK->Prop:=fun x lo hi H Q =>
 (∃ a xs,x=.ref a/\dY K H a xs/\∀ p,H p=none->Q (.ref p) (upd H p (.lst (qV xs lo hi)))) \/
 (∃ a xs,x=.ref a/\eW K H a xs/\¬ (HT.bP xs.length 0 lo=0/\HT.bP xs.length xs.length hi=xs.length)/\∀ p,H p=none->Q (.ref p) (upd H p (.tup (qV xs lo hi)))) \/
 (∃ z:Str,x=.str z/\z.length<=sizeLine/\Q (.str (Txt.slice z lo hi)) H)
def OC (o:Bool) (te:UE) (tl th:UO):UE:=fun τ M Q=>te τ M fun x M1=>tl τ M1 fun l M2=>th τ M2 fun h M3=>match view M3 x with
 | .lst us=>jQ o (dB us l h) M3 Q
 | .tup us=>¬ (HT.bP us.length 0 l=0/\HT.bP us.length us.length h=us.length)/\Q (.tup (dB us l h)) M3
 | .str z=>z.length<=sizeLine/\Q (.str (Txt.slice z l h)) M3
 | _=>False
end
section
variable {K:PySem.W.Frag} {t u:TS} {t' u':US} {te:TE} {te':UE}
def bF:US:=fun D τ M=>D.nx τ M
def mS (t u:US):US:=fun D τ M=>t { D with nx:=u D } τ M
def lB:US:=fun D τ M=>D.bk τ M
def m6:US:=fun D τ M=>D.ct τ M
def hZ (te:UE):US:=fun D τ M=>te τ M fun _ M1=>D.nx τ M1
def bS (te:UE):US:=fun D τ M=>te τ M D.rt
def m9:US:=fun D _ M=>D.rt .non M
def lX (c:UT) (t u:US):US:=fun D τ M=>c τ M fun b M1=>if b=true then t D τ M1 else u D τ M1
theorem KR:kT K LO bF:=fun σ τ H M D' rs rm h D d=>d.nx σ τ H M (aS.refl _ _) rm rs h
theorem NI (h1:kT K t t') (h2:kT K u u'):kT K (Og t u) (mS t' u'):=fun σ τ H M D' rs rm h D d =>
 h1 σ τ H M _ rs rm h _ ⟨fun σ1 τ1 H1 M1 s rm1 rs1 q=>h2 σ1 τ1 H1 M1 D' rs1 rm1 q D (d.stp s),d.rt,d.bk,d.ct⟩
theorem Ks (h1:cI K te te'):kT K (Lh te) (hZ te'):=fun σ τ H M D' rs rm h D d=>h1 σ τ H M _ rs rm h _ fun u v M1 H1 s rm1 ru q=>d.nx σ τ H1 M1 s rm1 (rs.stp s) q
theorem Nr (h1:cI K te te'):kT K (NY te) (bS te'):=fun σ τ H M D' rs rm h D d=>h1 σ τ H M _ rs rm h _ fun u v M1 H1 s rm1 ru q=>d.rt u v H1 M1 s rm1 ru q
theorem Ny {c:TT} {c':UT} (hc:j0 K c c') (h1:kT K t t') (h2:kT K u u'):kT K (Py c t u) (lX c' t' u'):=fun σ τ H M D' rs rm h D d=>hc σ τ H M _ rs rm h _ fun b M1 H1 s rm1 q=>by
 cases b with
 | true=>exact h1 σ τ H1 M1 D' (rs.stp s) rm1 q D (d.stp s)
 | false=>exact h2 σ τ H1 M1 D' (rs.stp s) rm1 q D (d.stp s)
abbrev UG:=U->SU->aF->(SU->aF->Prop)->Prop
abbrev yO:=List U->SU->aF->(SU->aF->Prop)->Prop
def xY (K:PySem.W.Frag) (g:TG) (g':UG):Prop:=∀ (u:U) (v:V) (σ:St) (τ:SU) (H:Hp) (M:aF) (Q':SU->aF->Prop),aJ K H M u v->eP K H M σ τ->RelM K H M->g' u τ M Q' ->
 ∀ Q:St->Hp->Prop,(∀ σ1 τ1 H1 M1,aS H M H1 M1->RelM K H1 M1->eP K H1 M1 σ1 τ1->Q' τ1 M1->Q σ1 H1)->g v σ H Q
def x9 (K:PySem.W.Frag) (g:oZ) (g':yO):Prop:=∀ (us:List U) (vs:List V) (σ:St) (τ:SU) (H:Hp) (M:aF) (Q':SU->aF->Prop),aK K H M us vs->eP K H M σ τ->RelM K H M->g' us τ M Q' ->
 ∀ Q:St->Hp->Prop,(∀ σ1 τ1 H1 M1,aS H M H1 M1->RelM K H1 M1->eP K H1 M1 σ1 τ1->Q' τ1 M1->Q σ1 H1)->g vs σ H Q
def hName (i:Nat):UG:=fun u τ M Q=>Q (τ.set i (some u)) M
theorem pW (i:Nat):xY K (pX i) (hName i):=fun u v σ τ H M Q' ru rs rm h Q c=>c _ _ H M (aS.refl _ _) rm (rs.set ru) h
def iC:yO:=fun us τ M Q=>match us with
 | []=>Q τ M
 | _=>False
def eT (g:UG) (r:yO):yO:=fun us τ M Q=>match us with
 | u :: us=>g u τ M fun τ1 M1=>r us τ1 M1 Q
 | _=>False
theorem Jn:x9 K CL iC:=fun us vs σ τ H M Q' ru rs rm h Q c=>by
 cases us with
 | nil=>exact ⟨ru.inv_nil,c σ τ H M (aS.refl _ _) rm rs h⟩
 | cons _ _=>exact h.elim
theorem Ia {g:TG} {g':UG} {r:oZ} {r':yO} (h1:xY K g g') (h2:x9 K r r'):x9 K (zX g r) (eT g' r'):=fun us vs σ τ H M Q' ru rs rm h Q c=>by
 cases us with
 | nil=>exact h.elim
 | cons u us =>
  obtain ⟨v,vs',rfl,a,b⟩:=ru.inv_cons
  exact ⟨v,vs',rfl,h1 u v σ τ H M _ a rs rm h _ fun σ1 τ1 H1 M1 s rm1 rs1 q=>h2 us vs' σ1 τ1 H1 M1 Q' (b.stp s) rs1 rm1 q Q fun σ2 τ2 H2 M2 s2=>c σ2 τ2 H2 M2 (s.trans s2)⟩
def gB (n:Nat) (r:yO):UG:=fun u τ M Q=>match u with
 | .tup us=>us.length=n/\r us τ M Q
 | _=>False
theorem IU {n:Nat} {r:oZ} {r':yO} (h2:x9 K r r'):xY K (CC K n r) (gB n r'):=fun u v σ τ H M Q' ru rs rm h Q c=>by
 cases u with
 | tup us =>
  obtain ⟨a,vs,rfl,s1,r1⟩:=ru.tup
  exact ⟨a,vs,rfl,s1,by rw [<- r1.length];exact h.1,h2 us vs σ τ H M Q' r1 rs rm h.2 Q c⟩
 | _=>exact h.elim
def bA (te:UE) (g:UG):US:=fun D τ M=>te τ M fun x M1=>g x τ M1 D.nx
theorem ET {g:TG} {g':UG} (h1:cI K te te') (h2:xY K g g'):kT K (Gf te g) (bA te' g'):=fun σ τ H M D' rs rm h D d =>
 h1 σ τ H M _ rs rm h _ fun u v M1 H1 s rm1 ru q=>h2 u v σ τ H1 M1 _ ru (rs.stp s) rm1 q _ fun σ1 τ1 H2 M2 s2 rm2 rs2 q2=>d.nx σ1 τ1 H2 M2 (s.trans s2) rm2 rs2 q2
def B6 (c:UT) (tb:US):US:=fun D τ M=>∃ (P:SU->aF->Prop) (μ:SU->aF->Nat),P τ M/\∀ τ M,P τ M->c τ M fun b M1=>if b=true then tb { D with nx:=fun τ' M'=>P τ' M'/\μ τ' M' < μ τ M,ct:=fun τ' M'=>P τ' M'/\μ τ' M' < μ τ M,bk:=D.nx } τ M1 else D.nx τ M1
theorem G9 {c:TT} {c':UT} (hc:j0 K c c') (h1:kT K t t'):kT K (IA c t) (B6 c' t'):=fun σ τ H M D' rs rm h D d=>by
 obtain ⟨P,μ,p0,turn⟩:=h
 refine ⟨fun m σ1 H1=>∃ τ1 M1,aS H M H1 M1/\RelM K H1 M1/\eP K H1 M1 σ1 τ1/\P τ1 M1/\m=μ τ1 M1,⟨_,τ,M,aS.refl _ _,rm,rs,p0,rfl⟩,?_⟩
 rintro m σ1 H1 ⟨τ1,M1,s1,rm1,rs1,p1,rfl⟩
 refine hc σ1 τ1 H1 M1 _ rs1 rm1 (turn τ1 M1 p1) _ fun b M2 H2 s2 rm2 q=>?_
 cases b with
 | true =>
  refine ⟨fun σ3 H3=>∃ τ3 M3,aS H M H3 M3/\RelM K H3 M3/\eP K H3 M3 σ3 τ3/\P τ3 M3/\μ τ3 M3 < μ τ1 M1,?_,?_⟩
  ·rintro σ3 H3 ⟨τ3,M3,s3,rm3,rs3,p3,lt⟩
   exact ⟨_,lt,τ3,M3,s3,rm3,rs3,p3,rfl⟩
  ·have d2:=d.stp (s1.trans s2)
   exact h1 σ1 τ1 H2 M2 _ (rs1.stp s2) rm2 q _ ⟨fun σ3 τ3 H3 M3 s3 rm3 rs3 q3=>⟨τ3,M3,(s1.trans s2).trans s3,rm3,rs3,q3.1,q3.2⟩,d2.rt,d2.nx,fun σ3 τ3 H3 M3 s3 rm3 rs3 q3=>⟨τ3,M3,(s1.trans s2).trans s3,rm3,rs3,q3.1,q3.2⟩⟩
 | false=>exact d.nx σ1 τ1 H2 M2 (s1.trans s2) rm2 (rs1.stp s2) q
structure Src where
 own:Option Addr
 xs:List U
def Src.ok (S:Src) (M:aF):Prop:=∀ a,S.own=some a->M a=some (.lst S.xs)
structure Walk (K:PySem.W.Frag) (J:It) (S:Src) (H:Hp) (M:aF):Prop where
 step:∀ H1 M1,aS H M H1 M1->RelM K H1 M1->S.ok M1->∀ (i:Nat) u,S.xs[i]?=some u->J.go i H1/\∀ x H2,J.yld i H1 x H2->aS H1 M1 H2 M1/\RelM K H2 M1/\aJ K H2 M1 u x
 stop:∀ H1 M1,aS H M H1 M1->RelM K H1 M1->S.ok M1->J.stop S.xs.length H1
abbrev UI:=SU->aF->(Src->aF->Prop)->Prop
def nQ (K:PySem.W.Frag) (t:TI) (t':UI):Prop:=∀ (σ:St) (τ:SU) (H:Hp) (M:aF) (R':Src->aF->Prop),eP K H M σ τ->RelM K H M->t' τ M R' ->
 ∀ R:It->Hp->Prop,(∀ J S M1 H1,aS H M H1 M1->RelM K H1 M1->Walk K J S H1 M1->R' S M1->R J H1)->t σ H R
def Gb (wi:UI) (g:UG) (tb:US):US:=fun D τ M=>wi τ M fun S M1=>∃ P:Nat->SU->aF->Prop,P 0 τ M1/\(∀ i τ M,P i τ M->S.ok M) /\
 (∀ i x τ M,S.xs[i]?=some x->P i τ M->g x τ M fun τ2 M2=>tb { D with nx:=P (i + 1),ct:=P (i + 1),bk:=D.nx } τ2 M2)/\∀ τ M,P S.xs.length τ M->D.nx τ M
theorem Mp {wi:TI} {wi':UI} {g:TG} {g':UG} (hi:nQ K wi wi') (hg:xY K g g') (h1:kT K t t'):kT K (OQ wi g t) (Gb wi' g' t'):=fun σ τ H M D' rs rm h D d=>by
 refine hi σ τ H M _ rs rm h _ fun J S M0 H0 s0 rm0 w h=>?_
 obtain ⟨P,p0,hok,turn,fin⟩:=h
 refine ⟨fun i m σ1 H1=>∃ τ1 M1,aS H0 M0 H1 M1/\RelM K H1 M1/\eP K H1 M1 σ1 τ1/\P i τ1 M1/\i<=S.xs.length/\m=S.xs.length - i,⟨_,τ,M0,aS.refl _ _,rm0,rs.stp s0,p0,Nat.zero_le _,rfl⟩,?_⟩
 rintro i m σ1 H1 ⟨τ1,M1,s1,rm1,rs1,p1,hle,rfl⟩
 have ok1:=hok i τ1 M1 p1
 by_cases hlt:i < S.xs.length
 ·obtain ⟨go,yl⟩:=w.step H1 M1 s1 rm1 ok1 i S.xs[i] (by simp [hlt])
  refine .inr ⟨go,fun σ3 H3=>∃ τ3 M3,aS H0 M0 H3 M3/\RelM K H3 M3/\eP K H3 M3 σ3 τ3/\P (i + 1) τ3 M3,?_,fun x H2 y=>?_⟩
  ·rintro σ3 H3 ⟨τ3,M3,s3,rm3,rs3,p3⟩
   exact ⟨S.xs.length - (i + 1),by omega,τ3,M3,s3,rm3,rs3,p3,hlt,rfl⟩
  ·obtain ⟨s2,rm2,ru⟩:=yl x H2 y
   refine hg _ x σ1 τ1 H2 M1 _ ru (rs1.stp s2) rm2 (turn i S.xs[i] τ1 M1 (by simp [hlt]) p1) _ fun σ3 τ3 H3 M3 s3 rm3 rs3 q3=>?_
   have d3:=d.stp (((s0.trans s1).trans s2).trans s3)
   exact h1 σ3 τ3 H3 M3 _ rs3 rm3 q3 _ ⟨fun σ4 τ4 H4 M4 s4 rm4 rs4 q4=>⟨τ4,M4,((s1.trans s2).trans s3).trans s4,rm4,rs4,q4⟩,d3.rt,d3.nx,fun σ4 τ4 H4 M4 s4 rm4 rs4 q4=>⟨τ4,M4,((s1.trans s2).trans s3).trans s4,rm4,rs4,q4⟩⟩
 ·have e:i=S.xs.length:=by omega
  subst e
  exact .inl ⟨w.stop H1 M1 s1 rm1 ok1,d.nx σ1 τ1 H1 M1 (s0.trans s1) rm1 rs1 (fin τ1 M1 p1)⟩
end
end U2
namespace U2
open PySem L2
section
variable {K:PySem.W.Frag}
theorem G1 {a:Addr} {us:List U} {vs:List V} {H:Hp} {M:aF} (m:(M a=none/\Rd H a (.lst vs))\/KL K a vs) (r:aK K H M us vs):Walk K (Ll K a) ⟨none,us⟩ H M:=by
 have sq:∀ H1 M1,aS H M H1 M1->dY K H1 a vs:=fun H1 M1 s=>by
  rcases m with ⟨m,h⟩ | k
  ·exact .inl (Rd.stp s m h).2
  ·exact .inr k
 refine ⟨fun H1 M1 s rm _ i u e=>?_,fun H1 M1 s rm _=>⟨vs,sq H1 M1 s,by rw [r.length];exact Nat.le_refl _⟩⟩
 obtain ⟨v,e2,ru⟩:=r.get e
 refine ⟨⟨vs,v,sq H1 M1 s,e2⟩,fun x H2 y=>?_⟩
 obtain ⟨rfl,y⟩:=y
 have:=y vs (sq _ M1 s)
 rw [e2] at this;cases this
 exact ⟨aS.refl _ _,rm,ru.stp s⟩
theorem K7 {a:Addr} {us:List U} {vs:List V} {H:Hp} {M:aF} (m:M a=none/\H a=some (.tup vs)) (r:aK K H M us vs):Walk K (N3 K a) ⟨none,us⟩ H M:=by
 have sq:∀ H1 M1,aS H M H1 M1->eW K H1 a vs:=fun H1 M1 s=>by
  exact .inl (.inl (s.to m.2 m.1).1)
 refine ⟨fun H1 M1 s rm _ i u e=>?_,fun H1 M1 s rm _=>⟨vs,sq H1 M1 s,by rw [r.length];exact Nat.le_refl _⟩⟩
 obtain ⟨v,e2,ru⟩:=r.get e
 refine ⟨⟨vs,v,sq H1 M1 s,e2⟩,fun x H2 y=>?_⟩
 obtain ⟨rfl,y⟩:=y
 have:=y vs (sq _ M1 s)
 rw [e2] at this;cases this
 exact ⟨aS.refl _ _,rm,ru.stp s⟩
theorem JA {a:Addr} {us:List U} {H:Hp} {M:aF}:Walk K (Ll K a) ⟨some a,us⟩ H M:=by
 refine ⟨fun H1 M1 s rm ok i u e=>?_,fun H1 M1 s rm ok=>?_⟩
 ·obtain ⟨vs,h1,r⟩:=rm a _ (ok a rfl)
  obtain ⟨v,e2,ru⟩:=r.get e
  refine ⟨⟨vs,v,.inl (.inl h1),e2⟩,fun x H2 y=>?_⟩
  obtain ⟨rfl,y⟩:=y
  have:=y vs (.inl (.inl h1))
  rw [e2] at this;cases this
  exact ⟨aS.refl _ _,rm,ru⟩
 ·obtain ⟨vs,h1,r⟩:=rm a _ (ok a rfl)
  exact ⟨vs,.inl (.inl h1),by rw [r.length];exact Nat.le_refl _⟩
def Pl (z:Str):It:=⟨fun i _=>i < z.cps.size,fun i H x H'=>H'=H/\∃ c,z.cps[i]?=some c/\x=.str ⟨#[c]⟩,fun i _=>i=z.cps.size⟩
def chars (z:Str):List U:=z.cps.toList.map fun c=>.str ⟨#[c]⟩
theorem IL {z:Str} {H:Hp} {M:aF}:Walk K (Pl z) ⟨none,chars z⟩ H M:=by
 refine ⟨fun H1 M1 s rm _ i u e=>?_,fun H1 M1 s rm _=>?_⟩
 ·have hi:i < z.cps.size:=by
   have:=(List.getElem?_eq_some_iff.mp e).1
   simpa [chars] using this
  refine ⟨hi,fun x H2 y=>?_⟩
  obtain ⟨rfl,c,h1,rfl⟩:=y
  have:u=.str ⟨#[c]⟩:=by
   simp only [chars,List.getElem?_map,Array.getElem?_toList,h1,Option.map_some] at e
   exact (Option.some.inj e).symm
  subst this
  exact ⟨aS.refl _ _,rm,mU⟩
 ·show (chars z).length=z.cps.size
  simp [chars]
def O1 (K:PySem.W.Frag) (tl:TE):TI:=fun σ H R=>tl σ H fun x H1 =>
 (∃ a,x=.ref a/\(∃ xs,dY K H1 a xs)/\R (Ll K a) H1)\/(∃ a,x=.ref a/\(∃ xs,eW K H1 a xs)/\R (N3 K a) H1)\/(∃ z,x=.str z/\R (Pl z) H1)
def n5 (te:UE):UI:=fun τ M R=>te τ M fun u M1=>match u with
 | .lst us=>R ⟨none,us⟩ M1
 | .tup us=>R ⟨none,us⟩ M1
 | .str z=>R ⟨none,chars z⟩ M1
 | .ref a=>match M1 a with
  | some (.lst us)=>R ⟨some a,us⟩ M1
  | _=>False
 | _=>False
theorem Jb {te:TE} {te':UE} (h:cI K te te'):nQ K (O1 K te) (n5 te'):=fun σ τ H M R' rs rm q R c=>h σ τ H M _ rs rm q _ fun u v M1 H1 s1 rm1 ru h1=>by
 cases u with
 | lst us =>
  simp only [aJ] at ru
  obtain ⟨a,vs,rfl,m,r⟩:=ru
  refine .inl ⟨a,rfl,⟨vs,?_⟩,c _ _ M1 H1 s1 rm1 (G1 m r) h1⟩
  rcases m with ⟨_,m⟩ | k
  ·exact .inl m
  ·exact .inr k
 | tup us =>
  simp only [aJ] at ru
  obtain ⟨a,vs,rfl,m,r⟩:=ru
  refine .inr (.inl ⟨a,rfl,⟨vs,?_⟩,c _ _ M1 H1 s1 rm1 (K7 m r) h1⟩)
  exact .inl (.inl m.2)
 | str z=>exact .inr (.inr ⟨z,ru.str,c _ _ M1 H1 s1 rm1 IL h1⟩)
 | ref a =>
  dsimp only at h1
  split at h1
  ·rename_i us e
   obtain ⟨vs,h2,r⟩:=rm1 a _ e
   exact .inl ⟨a,ru.ref,⟨vs,.inl (.inl h2)⟩,c _ _ M1 H1 s1 rm1 JA h1⟩
  ·exact h1.elim
 | _=>exact h1.elim
def eI (lo:Int) (n:Nat):List U:=(List.range n).map fun (k:Nat)=>U.int (lo + (k:Int))
theorem zP {lo:Int} {n:Nat} {H:Hp} {M:aF}:Walk K (zS lo n) ⟨none,eI lo n⟩ H M:=by
 refine ⟨fun H1 M1 s rm _ i u e=>?_,fun H1 M1 s rm _=>?_⟩
 ·have hi:i < n:=by
   have:=(List.getElem?_eq_some_iff.mp e).1
   simpa [eI] using this
  refine ⟨hi,fun x H2 y=>?_⟩
  obtain ⟨rfl,rfl⟩:=y
  have:u=.int (lo + i):=by
   simp only [eI,List.getElem?_map,List.getElem?_range hi,Option.map_some] at e
   exact (Option.some.inj e).symm
  subst this
  exact ⟨aS.refl _ _,rm,eJ⟩
 ·show n<=(eI lo n).length
  simp [eI]
def n6 (ta:UA):UI:=fun τ M R=>ta τ M fun us M1=>match us with
 | [.int j]=>-(2 ^ 62)<=j/\j < 2 ^ 62/\R ⟨none,eI 0 j.toNat⟩ M1
 | _=>False
def n8 (ta:UA):UI:=fun τ M R=>ta τ M fun us M1=>match us with
 | [.int i,.int j]=>(-(2 ^ 62)<=i/\i < 2 ^ 62/\-(2 ^ 62)<=j/\j < 2 ^ 62)/\R ⟨none,eI i (j - i).toNat⟩ M1
 | _=>False
theorem J4 {ta:TA} {ta':UA} (h:kE K ta ta'):nQ K (LL ta) (n6 ta'):=fun σ τ H M R' rs rm q R c=>h σ τ H M _ rs rm q _ fun us vs M1 H1 s1 rm1 ru h1=>by
 split at h1
 ·rename_i j
  obtain ⟨v,vs',rfl,a,b⟩:=ru.inv_cons
  cases b.inv_nil
  cases a.int
  exact ⟨j,rfl,h1.1,h1.2.1,c _ _ M1 H1 s1 rm1 zP h1.2.2⟩
 ·exact h1.elim
theorem Jy {ta:TA} {ta':UA} (h:kE K ta ta'):nQ K (Lp ta) (n8 ta'):=fun σ τ H M R' rs rm q R c=>h σ τ H M _ rs rm q _ fun us vs M1 H1 s1 rm1 ru h1=>by
 split at h1
 ·rename_i i j
  obtain ⟨v,vs',rfl,a,b⟩:=ru.inv_cons
  obtain ⟨v2,vs2,rfl,a2,b2⟩:=b.inv_cons
  cases b2.inv_nil
  cases a.int
  cases a2.int
  exact ⟨i,j,rfl,h1.1,c _ _ M1 H1 s1 rm1 zP h1.2⟩
 ·exact h1.elim
abbrev dC:=List U->aF->UK->Prop
def iX (K:PySem.W.Frag) (sp:dC):Sp:=fun vs H Q _=>∃ us M Q',RelM K H M/\aK K H M us vs/\sp us M Q'/\eE K H M Q' Q
def oA (sp:dC) (dus:List U) (t:UA):UE:=fun τ M Q=>t τ M fun us M1=>sp (us++dus) M1 Q
theorem KG {sp:dC} {dus:List U} {dvs:List V} {E:XK} {t:TA} {t':UA} (hd:∀ H M,aK K H M dus dvs) (h:kE K t t'):cI K (E2 (iX K sp) dvs E t) (oA sp dus t'):=fun σ τ H M Q' rs rm q Q c =>
 h σ τ H M _ rs rm q _ fun us vs M1 H1 s1 rm1 ru h1=>⟨us++dus,M1,Q',rm1,ru.append (hd _ _),h1,eE.stp c s1⟩
def Sub (M' M1:aF):Prop:=∀ b mo,M' b=some mo->M1 b=some mo
theorem Sub.refl (M:aF):Sub M M:=fun _ _ h=>h
theorem Sub.mup {M M1:aF} {p:Addr} {o:MO} (h:Sub M M1) (hp:M p=none):Sub M (mup M1 p o):=fun b mo e=>by
 have:b≠p:=fun z=>by subst z;rw [hp] at e;cases e
 rw [aO this];exact h b mo e
theorem Sub.less {M M1:aF} (h:Sub M M1) {H:Hp}:aS H M1 H M:=aS.less fun b e=>by
 cases q:M b with
 | none=>rfl
 | some mo=>rw [h b mo q] at e;cases e
theorem RelM.sub {H:Hp} {M M1:aF} (rm:RelM K H M1) (h:Sub M M1):RelM K H M:=fun a mo e=>(rm a mo (h a mo e)).stp (fun b q z=>h b _ z) (h.less) rfl
def Out (M1 M':aF) (u u':U):Prop:=u'=u\/∃ a us,u=.ref a/\M1 a=some (.lst us)/\M' a=none/\u'=.lst us
def rJ (Q:UK):UK:=fun u M1=>∃ u' M',Sub M' M1/\Out M1 M' u u'/\Q u' M'
theorem rJ.ok {H H1:Hp} {M M1:aF} {Q':UK} {Q:VK} {u:U} {v:V} (c:eE K H M Q' Q) (s:aS H M H1 M1) (rm:RelM K H1 M1) (ru:aJ K H1 M1 u v) (h:rJ Q' u M1):Q v H1:=by
 obtain ⟨u',M',sb,o,q⟩:=h
 have s':aS H1 M1 H1 M':=sb.less
 refine c u' v M' H1 (s.trans s') (rm.sub sb) ?_ q
 rcases o with rfl | ⟨a,us,rfl,h1,h2,rfl⟩
 ·exact ru.stp s'
 ·obtain ⟨vs,h3,h4⟩:=rm a _ h1
  cases ru.ref
  exact sJ h2 h3 (h4.stp s')
def gT (N:List Str) (us:List U):SU:=us.map some++List.replicate (N.length - us.length) none
def IE (M:aF) (x:U):Prop:=∃ us,view M x=.lst us
def wQ (r:U->List U->aF->UK->Prop) (to:UE) (t:UA):UE:=fun τ M Q=>to τ M fun x M1=>IE M1 x/\t τ M1 fun xs M2=>r x xs M2 Q
def xA (r:U->List U->aF->UK->Prop) (to:UE):UE:=fun τ M Q=>to τ M fun x M1=>IE M1 x/\r x [] M1 Q
theorem IE.ty {H:Hp} {M:aF} {u:U} {v:V} (rm:RelM K H M) (ru:aJ K H M u v) (h:IE M u):NM K "list" v H:=by
 obtain ⟨us,h⟩:=h
 obtain ⟨a,vs,rfl,s,_⟩:=dZ rm ru h
 exact .inl ⟨rfl,vs,s⟩
theorem GH {r:V->List V->Hp->VK->Prop} {r':U->List U->aF->UK->Prop} {to:TE} {to':UE} {t:TA} {t':UA} (hr:zL K r r') (ho:cI K to to') (h:kE K t t') :
  cI K (QX K "list" r to t) (wQ r' to' t'):=fun σ τ H M Q' rs rm q Q c =>
 ho σ τ H M _ rs rm q _ fun u v M1 H1 s1 rm1 ru h1=>⟨h1.1.ty rm1 ru,h σ τ H1 M1 _ (rs.stp s1) rm1 h1.2 _ fun us vs M2 H2 s2 rm2 rus h2=>hr v vs u us H2 M2 Q' rm2 (ru.stp s2) rus h2 Q (eE.stp c (s1.trans s2))⟩
theorem eE.write {H:Hp} {M:aF} {Q':UK} {Q:VK} {a:Addr} {us us':List U} {xs':List V} {r:U} {v:V} (c:eE K H M Q' Q) (rm:RelM K H M) (e:M a=some (.lst us)) (r1:aK K H M us' xs') (r2:aJ K H M r v) (q:Q' r (mup M a (.lst us'))):Q v (upd H a (.lst xs')):=by
 have st:aS H M (upd H a (.lst xs')) (mup M a (.lst us')):=aS.write e
 exact c _ _ _ _ st (rm.put st ⟨xs',cT,r1.stp st⟩) (r2.stp st) q
def jG:U->List U->aF->UK->Prop:=fun x ws M Q=>match x,ws with
 | .ref a,[w]=>match M a with
  | some (.lst us)=>us.length < sizeLine/\Q .non (mup M a (.lst (us++[w])))
  | _=>False
 | _,_=>False
theorem Fn:zL K D7 jG:=fun x xs u us H M Q' rm ru rus h Q c=>by
 unfold jG at h
 split at h
 ·rename_i a w
  split at h
  ·rename_i ws e
   obtain ⟨vs,h1,r⟩:=rm a _ e
   obtain ⟨v,vs',rfl,a1,b⟩:=rus.inv_cons
   cases b.inv_nil
   cases ru.ref
   exact ⟨a,vs,v,rfl,rfl,h1,by rw [<- r.length];exact h.1,c.write rm e (r.append (.cons a1 .nil)) mV h.2⟩
  ·exact h.elim
 ·exact h.elim
def xS:U->List U->aF->UK->Prop:=fun x ws M Q=>match x,ws with
 | .ref a,[]=>match M a with
  | some (.lst us)=>match us.getLast? with
   | some w=>Q w (mup M a (.lst us.dropLast))
   | none=>False
  | _=>False
 | _,_=>False
def CY (K:PySem.W.Frag):V->List V->Hp->VK->Prop:=fun x vs H Q=>∃ l b xs zs,x=.ref l/\vs=[.ref b]/\H l=some (.lst xs)/\dY K H b zs/\xs.length + zs.length<=sizeLine/\Q .non (upd H l (.lst (xs++zs)))
def jM:U->List U->aF->UK->Prop:=fun x ws M Q=>match x,ws with
 | .ref a,[w]=>match M a,view M w with
  | some (.lst us),.lst zs=>us.length + zs.length<=sizeLine/\Q .non (mup M a (.lst (us++zs)))
  | _,_=>False
 | _,_=>False
theorem F7:zL K (CY K) jM:=fun x xs u us H M Q' rm ru rus h Q c=>by
 unfold jM at h
 split at h
 ·rename_i a w
  split at h
  ·rename_i ws zs e e2
   obtain ⟨vs,h1,r⟩:=rm a _ e
   obtain ⟨v,vs',rfl,a1,b⟩:=rus.inv_cons
   cases b.inv_nil
   cases ru.ref
   obtain ⟨b,zvs,rfl,s2,r2⟩:=dZ rm a1 e2
   exact ⟨a,b,vs,zvs,rfl,rfl,h1,s2,by rw [<- r.length,<- r2.length];exact h.1,c.write rm e (r.append r2) mV h.2⟩
  ·exact h.elim
 ·exact h.elim
def oQ:U->List U->aF->UK->Prop:=fun x ws M Q=>match x,ws with
 | .ref a,[]=>match M a with
  | some (.lst us)=>Q .non (mup M a (.lst []))
  | _=>False
 | _,_=>False
def qK:List U->aF->UK->Prop:=fun us M Q=>match us with
 | [x]=>match view M x with
  | .lst ws=>Q (.int ws.length) M
  | .tup ws=>Q (.int ws.length) M
  | .str z=>z.length<=sizeLine/\Q (.int z.length) M
  | _=>False
 | _=>False
theorem Mc:vK K (fun xs H Q=>∃ x n,xs=[x]/\Ot K x H n/\Q (.int n) H) qK:=fun xs us H M Q' rm rus h Q c=>by
 unfold qK at h
 split at h
 ·rename_i x
  obtain ⟨v,vs',rfl,a1,b⟩:=rus.inv_cons
  cases b.inv_nil
  split at h
  ·rename_i ws e
   obtain ⟨b,zvs,rfl,s2,r2⟩:=dZ rm a1 e
   exact ⟨_,zvs.length,rfl,.inl ⟨zvs,s2,rfl⟩,c.here rm eJ (by rw [<- r2.length];exact h)⟩
  ·rename_i ws e
   have e':=pE e
   subst e'
   obtain ⟨b,zvs,rfl,s2,r2⟩:=a1.tup
   exact ⟨_,zvs.length,rfl,.inr ⟨zvs,s2,rfl⟩,c.here rm eJ (by rw [<- r2.length];exact h)⟩
  ·rename_i z e
   have e':=xV e
   subst e'
   cases a1.str
   exact ⟨_,z.length,rfl,⟨h.1,rfl⟩,c.here rm eJ h.2⟩
  ·exact h.elim
 ·exact h.elim
def tB (C:Int->Prop) (g:Int->U):List U->aF->UK->Prop:=fun us M Q=>match us with
 | [.int i]=>C i/\Q (g i) M
 | _=>False
def tF (g:Int->Int->U):List U->aF->UK->Prop:=fun us M Q=>match us with
 | [.int i,.int j]=>Q (g i j) M
 | _=>False
theorem aK.one {H:Hp} {M:aF} {u:U} {vs:List V} (h:aK K H M [u] vs):∃ v,vs=[v]/\aJ K H M u v:=by
 obtain ⟨v,vs',rfl,a1,b⟩:=h.inv_cons
 cases b.inv_nil
 exact ⟨v,rfl,a1⟩
theorem aK.two {H:Hp} {M:aF} {u w:U} {vs:List V} (h:aK K H M [u,w] vs):∃ v z,vs=[v,z]/\aJ K H M u v/\aJ K H M w z:=by
 obtain ⟨v,vs',rfl,a1,b⟩:=h.inv_cons
 obtain ⟨z,rfl,b1⟩:=b.one
 exact ⟨v,z,rfl,a1,b1⟩
def mZ (o:Bool):List U->aF->UK->Prop:=fun us M Q=>match us with
 | [x]=>match view M x with
  | .lst ws=>jQ o ws M Q
  | .tup ws=>jQ o ws M Q
  | _=>False
 | _=>False
def kX:List U->aF->UK->Prop:=fun us M Q=>match us with
 | [x]=>match view M x with
  | .lst ws=>Q (.tup ws) M
  | .tup ws=>Q (.tup ws) M
  | _=>False
 | _=>False
theorem JM {o:Bool}:vK K (fun xs H Q=>∃ p ys,xs=[.ref p]/\(dY K H p ys\/eW K H p ys)/\∀ l,H l=none->Q (.ref l) (upd H l (.lst ys))) (mZ o):=fun xs us H M Q' rm rus h Q c=>by
 unfold mZ at h
 split at h
 ·rename_i x
  obtain ⟨v,rfl,a1⟩:=rus.one
  split at h
  ·rename_i ws e
   obtain ⟨b,zvs,rfl,s2,r2⟩:=dZ rm a1 e
   exact ⟨b,zvs,rfl,.inl s2,fun l hl=>c.lst rm r2 hl h⟩
  ·rename_i ws e
   have e':=pE e
   subst e'
   obtain ⟨b,zvs,rfl,s2,r2⟩:=a1.tup
   exact ⟨b,zvs,rfl,.inr s2,fun l hl=>c.lst rm r2 hl h⟩
  ·exact h.elim
 ·exact h.elim
theorem GW:vK K (fun xs H Q=>∃ p ys,xs=[.ref p]/\((dY K H p ys/\∀ l,H l=none->Q (.ref l) (upd H l (.tup ys)))\/(eW K H p ys/\Q (.ref p) H))) kX:=fun xs us H M Q' rm rus h Q c=>by
 unfold kX at h
 split at h
 ·rename_i x
  obtain ⟨v,rfl,a1⟩:=rus.one
  split at h
  ·rename_i ws e
   obtain ⟨b,zvs,rfl,s2,r2⟩:=dZ rm a1 e
   exact ⟨b,zvs,rfl,.inl ⟨s2,fun l hl=>c.tup rm r2 hl h⟩⟩
  ·rename_i ws e
   have e':=pE e
   subst e'
   have a2:=a1
   obtain ⟨b,zvs,rfl,s2,r2⟩:=a1.tup
   exact ⟨b,zvs,rfl,.inr ⟨s2,c.here rm a2 h⟩⟩
  ·exact h.elim
 ·exact h.elim
def t6 (M:aF) (x:U):Option String:=match x with
 | .non=>some "NoneType"
 | .bl _=>some "bool"
 | .int _=>some "int"
 | .str _=>some "str"
 | .tup _=>some "tuple"
 | .lst _=>some "list"
 | .ref a=>match M a with
  | some (.lst _)=>some "list"
  | some (.dK _)=>some "dict"
  | some (.dT _)=>some "dict"
  | _=>none
 | .dic _ _ _=>some "dict"
 | .ty _=>none
def HS:U->U->Option Bool
 | .non,.non=>some true
 | .non,.int _=>some false | .int _,.non=>some false | .non,.bl _=>some false | .bl _,.non=>some false | .non,.str _=>some false | .str _,.non=>some false
 | .int i,.int j=>some (decide (i=j))
 | .bl i,.bl j=>some (decide (i=j))
 | .str i,.str j=>some (decide (i=j))
 | .int _,.str _=>some false | .str _,.int _=>some false | .bl _,.str _=>some false | .str _,.bl _=>some false
 | _,_=>none
def xX:dR:=fun x y M Q=>match HS x y with
 | some b=>Q (.bl b) M
 | none=>False
def xU:dR:=fun x y M Q=>match HS x y with
 | some b=>Q (.bl (!b)) M
 | none=>False
theorem EL {H:Hp} {M:aF} {x y:V} {u w:U} {b:Bool} (ru:aJ K H M u x) (rw:aJ K H M w y) (h:HS u w=some b):F6 x y=true/\decide (x=y)=b:=by
 cases u <;> cases w <;> simp only [HS,Option.some.injEq,reduceCtorEq] at h <;> subst h <;>
  (first
   | (cases ru.non) | (cases ru.bl) | (cases ru.int) | (cases ru.str)) <;>
  (first
   | (cases rw.non) | (cases rw.bl) | (cases rw.int) | (cases rw.str)) <;> simp [F6]
def gG:U->Bool
 | .non=>true
 | _=>false
def qJ:dR:=fun x y M Q=>match y with
 | .non=>Q (.bl (gG x)) M
 | _=>False
def m7:dR:=fun x y M Q=>match y with
 | .non=>Q (.bl (!gG x)) M
 | _=>False
theorem D4 {H:Hp} {M:aF} {x:V} {u:U} (ru:aJ K H M u x):decide (x=.non)=gG u:=by
 cases u with
 | non=>cases ru.non;simp [gG]
 | bl b=>cases ru.bl;simp [gG]
 | int b=>cases ru.int;simp [gG]
 | str b=>cases ru.str;simp [gG]
 | ty b=>cases ru.ty;simp [gG]
 | ref b=>cases ru.ref;simp [gG]
 | tup b=>obtain ⟨a,vs,rfl,_⟩:=ru.tup;simp [gG]
 | lst b=>obtain ⟨a,vs,rfl,_⟩:=ru.lst;simp [gG]
 | dic ks tk us=>simp only [aJ] at ru;obtain ⟨a,vs,rfl,_⟩:=ru;simp [gG]
theorem Mo:dS K (fun x y H Q=>y=.non/\Q (.bl (decide (x=.non))) H) qJ:=fun x y u w H M Q' rm ru rw h Q c=>by
 unfold qJ at h
 split at h
 ·exact ⟨rw.non,c.here rm (by rw [D4 ru];exact dI) h⟩
 ·exact h.elim
theorem Ke:dS K (fun x y H Q=>y=.non/\Q (.bl (!decide (x=.non))) H) m7:=fun x y u w H M Q' rm ru rw h Q c=>by
 unfold m7 at h
 split at h
 ·exact ⟨rw.non,c.here rm (by rw [D4 ru];exact dI) h⟩
 ·exact h.elim
end
end U2
namespace U2
open PySem L2
def cY {α:Type} (k:Nat) (ix:List Nat) (σ:List (Option α)):List (Option α):=List.replicate k none++ix.map fun i=>(σ[i]?).getD none
def vU (k:Nat) (ix:List Nat) (wi:TI) (g:TG) (tc:TT) (te:TE):TE:=fun σ H Q=>wi σ H fun J H1=>∀ D,H1 D=none->∃ W:Nat->Nat->Hp->Prop,(∃ m,W 0 m (upd H1 D (.lst [])))/\∀ i m H,W i m H ->
 (J.stop i H/\Q (.ref D) H)\/(J.go i H/\∀ x H',J.yld i H x H'->g x (cY k ix σ) H' fun σ2 H2=>tc σ2 H2 fun ok H3 =>
  if ok=true then te σ2 H3 fun y H4=>∃ ys,H4 D=some (.lst ys)/\ys.length < sizeLine/\∃ m',m' < m/\W (i + 1) m' (upd H4 D (.lst (ys++[y]))) else ∃ m',m' < m/\W (i + 1) m' H3)
def Oy (o:Bool) (Q:UK) (D:Addr) (ys:List U) (M:aF):Prop:=match o with
 | true=>Q (.ref D) M
 | false=>∃ M',Sub M' M/\M' D=none/\Q (.lst ys) M'
def vR (o:Bool) (k:Nat) (ix:List Nat) (wi:UI) (g:UG) (tc:UT) (te:UE):UE:=fun τ M Q=>wi τ M fun S M1=>S.xs.length<=sizeLine/\∀ D,M1 D=none->∃ P:Nat->List U->aF->Prop,P 0 [] (mup M1 D (.lst [])) /\
 (∀ i ys M,P i ys M->S.ok M/\M D=some (.lst ys)/\ys.length<=i) /\
 (∀ i x ys M,S.xs[i]?=some x->P i ys M->g x (cY k ix τ) M fun τ2 M2=>tc τ2 M2 fun ok M3=>if ok=true then te τ2 M3 fun y M4=>M4 D=some (.lst ys)/\P (i + 1) (ys++[y]) (mup M4 D (.lst (ys++[y]))) else P (i + 1) ys M3) /\
 ∀ ys M,P S.xs.length ys M->Oy o Q D ys M
section
variable {K:PySem.W.Frag}
theorem J8 {H:Hp} {M:aF} {σ:St} {τ:SU} (k:Nat) (ix:List Nat) (r:eP K H M σ τ):eP K H M (cY k ix σ) (cY k ix τ):=by
 refine ⟨by simp [cY],fun i u e=>?_⟩
 unfold cY at e ⊢
 by_cases hi:i < k
 ·rw [List.getElem?_append_left (by simpa using hi),List.getElem?_replicate] at e
  split at e <;> cases e
 ·rw [List.getElem?_append_right (by simpa using Nat.le_of_not_lt hi),List.getElem?_map] at e ⊢
  simp only [List.length_replicate] at e ⊢
  cases q:ix[i - k]? with
  | none=>rw [q] at e;cases e
  | some j =>
   rw [q] at e
   simp only [Option.map_some,Option.some.injEq] at e ⊢
   cases z:τ[j]? with
   | none=>rw [z] at e;cases e
   | some w =>
    rw [z] at e
    simp only [Option.getD_some] at e
    subst e
    obtain ⟨v,h1,h2⟩:=r.2 j u z
    exact ⟨v,by rw [h1];rfl,h2⟩
theorem xE {o:Bool} {k:Nat} {ix:List Nat} {wi:TI} {wi':UI} {g:TG} {g':UG} {tc:TT} {tc':UT} {te:TE} {te':UE} (hi:nQ K wi wi') (hg:xY K g g') (hc:j0 K tc tc') (he:cI K te te') :
  cI K (vU k ix wi g tc te) (vR o k ix wi' g' tc' te'):=fun σ τ H M Q' rs rm h Q c=>by
 refine hi σ τ H M _ rs rm h _ fun J S M1 H1 s1 rm1 w h=>?_
 obtain ⟨hz,h⟩:=h
 intro D hD
 obtain ⟨P,p0,inv,turn,fin⟩:=h D (rm1.no hD)
 have sD:aS H1 M1 (upd H1 D (.lst [])) (mup M1 D (.lst [])):=aS.own rm1 hD
 have rmD:RelM K (upd H1 D (.lst [])) (mup M1 D (.lst [])):=rm1.put sD ⟨[],cT,.nil⟩
 refine ⟨fun i m H2=>∃ M2 ys,aS H1 M1 H2 M2/\RelM K H2 M2/\P i ys M2/\i<=S.xs.length/\m=S.xs.length - i,⟨_,_,[],sD,rmD,p0,Nat.zero_le _,rfl⟩,?_⟩
 rintro i m H2 ⟨M2,ys,s2,rm2,p2,hle,rfl⟩
 obtain ⟨ok2,d2,l2⟩:=inv i ys M2 p2
 by_cases hlt:i < S.xs.length
 ·obtain ⟨go,yl⟩:=w.step H2 M2 s2 rm2 ok2 i S.xs[i] (by simp [hlt])
  refine .inr ⟨go,fun x H3 y=>?_⟩
  obtain ⟨s3,rm3,ru⟩:=yl x H3 y
  have rs3:eP K H3 M2 (cY k ix σ) (cY k ix τ):=J8 k ix (((rs.stp s1).stp s2).stp s3)
  refine hg _ x _ _ H3 M2 _ ru rs3 rm3 (turn i S.xs[i] ys M2 (by simp [hlt]) p2) _ fun σ4 τ4 H4 M4 s4 rm4 rs4 q4=>?_
  refine hc σ4 τ4 H4 M4 _ rs4 rm4 q4 _ fun b M5 H5 s5 rm5 q5=>?_
  have s25:aS H1 M1 H5 M5:=((s2.trans s3).trans s4).trans s5
  cases b with
  | false =>
   exact ⟨S.xs.length - (i + 1),by omega,M5,ys,s25,rm5,q5,hlt,rfl⟩
  | true =>
   refine he σ4 τ4 H5 M5 _ (rs4.stp s5) rm5 q5 _ fun u v M6 H6 s6 rm6 ru6 q6=>?_
   obtain ⟨d6,p6⟩:=q6
   obtain ⟨vs,h6,r6⟩:=rm6 D _ d6
   have l6:vs.length < sizeLine:=by rw [<- r6.length];omega
   have s7:aS H6 M6 (upd H6 D (.lst (vs++[v]))) (mup M6 D (.lst (ys++[u]))):=aS.write d6
   exact ⟨vs,h6,l6,S.xs.length - (i + 1),by omega,_,ys++[u],(s25.trans s6).trans s7,rm6.put s7 ⟨_,cT,(r6.append (.cons ru6 .nil)).stp s7⟩,p6,hlt,rfl⟩
 ·have e:i=S.xs.length:=by omega
  subst e
  refine .inl ⟨w.stop H2 M2 s2 rm2 ok2,?_⟩
  have q:=fin ys M2 p2
  cases o with
  | true=>exact c _ _ M2 H2 (s1.trans s2) rm2 lI q
  | false =>
   obtain ⟨M',sb,n,q⟩:=q
   obtain ⟨vs,h6,r6⟩:=rm2 D _ d2
   have s':aS H2 M2 H2 M':=sb.less
   exact c _ _ M' H2 ((s1.trans s2).trans s') (rm2.sub sb) (sJ n h6 (r6.stp s')) q
end
theorem GO {o:Bool} {k:Nat} {ix:List Nat} {wi:UI} {g:UG} {tc:UT} {te:UE} {τ:SU} {M1:aF} {Q:UK} {S:Src} (f:U->Option U) (hz:S.xs.length<=sizeLine) (hs:S.ok M1)
  (h:∀ x∈S.xs,∀ M,Sub M1 M->∀ R:Option U->aF->Prop,R (f x) M->g x (cY k ix τ) M fun τ2 M2=>tc τ2 M2 fun ok M3=>if ok=true then te τ2 M3 fun y M4=>R (some y) M4 else R none M3)
  (q:jQ o (S.xs.filterMap f) M1 Q):S.xs.length<=sizeLine/\∀ D,M1 D=none->∃ P:Nat->List U->aF->Prop,P 0 [] (mup M1 D (.lst [])) /\
 (∀ i ys M,P i ys M->S.ok M/\M D=some (.lst ys)/\ys.length<=i) /\
 (∀ i x ys M,S.xs[i]?=some x->P i ys M->g x (cY k ix τ) M fun τ2 M2=>tc τ2 M2 fun ok M3=>if ok=true then te τ2 M3 fun y M4=>M4 D=some (.lst ys)/\P (i + 1) (ys++[y]) (mup M4 D (.lst (ys++[y]))) else P (i + 1) ys M3) /\
 ∀ ys M,P S.xs.length ys M->Oy o Q D ys M:=by
 refine ⟨hz,fun D hD=>⟨fun i ys M=>ys=(S.xs.take i).filterMap f/\M=mup M1 D (.lst ys)/\i<=S.xs.length,⟨by simp,rfl,Nat.zero_le _⟩,?_,?_,?_⟩⟩
 ·rintro i ys M ⟨rfl,rfl,hi⟩
  refine ⟨fun a e=>?_,aH,?_⟩
  ·have:=hs a e
   rw [aO (fun z=>by subst z;rw [hD] at this;cases this)]
   exact this
  ·refine Nat.le_trans (List.length_filterMap_le _ _) ?_
   rw [List.length_take];omega
 ·rintro i x ys M e ⟨rfl,rfl,hi⟩
  have hlt:i < S.xs.length:=(List.getElem?_eq_some_iff.mp e).1
  have hx:x∈S.xs:=List.mem_of_getElem? e
  have tk:(S.xs.take (i + 1)).filterMap f=(S.xs.take i).filterMap f++(f x).toList:=by
   rw [List.take_add_one,e,List.filterMap_append]
   cases q:f x <;> simp [q]
  refine h x hx (mup M1 D (.lst ((S.xs.take i).filterMap f))) ((Sub.refl M1).mup hD) (fun r M4=>match r with
   | some y=>M4 D=some (.lst ((S.xs.take i).filterMap f))/\((S.xs.take i).filterMap f++[y]=(S.xs.take (i + 1)).filterMap f/\mup M4 D (.lst ((S.xs.take i).filterMap f++[y]))=mup M1 D (.lst ((S.xs.take i).filterMap f++[y]))/\i + 1<=S.xs.length)
   | none=>(S.xs.take i).filterMap f=(S.xs.take (i + 1)).filterMap f/\M4=mup M1 D (.lst ((S.xs.take i).filterMap f))/\i + 1<=S.xs.length) ?_
  rw [tk]
  cases f x with
  | none=>exact ⟨by simp,rfl,hlt⟩
  | some y=>exact ⟨aH,rfl,bX,hlt⟩
 ·rintro ys M ⟨rfl,rfl,hi⟩
  rw [List.take_length]
  cases o with
  | true=>exact q D hD
  | false=>exact ⟨M1,(Sub.refl M1).mup hD,hD,q⟩
end U2
namespace U2
open PySem PySem.Spec PyProof.Rows L2
theorem BW {P:Program} {w:World} {K:PySem.W.Frag} {tg:Expr} {ty:String} (z:Str) (t:Tok) (it:Addr)
  (W:∀ A':Around,A'.handled=none->Walks P w A' it [it] [it] z.cps.size (SignAt z) (fun i h=>h.IsStrIter it ty z t i))
  (hty:["enumerate","zip","dict_itemiterator","dict_reverseitemiterator","odict_iterator","itertools.zip_longest","itertools.pairwise"].contains ty=false)
  (self:∀ (A:Around) (i:Nat) (s:Shared) (Q:Value->Shared->Prop) (E:Value->Shared->Prop),s.heap.IsStrIter it ty z t i->Q (.ref it) s->wpAny (model P w) A (pyIter (.ref it)) Q E s) :
  Turn P w K tg (Pl z) [it] it (fun i h=>h.IsStrIter it ty z t i) where
 mem:=by simp
 obj:=fun i h st b hb=>by
  have e:b=it:=by simpa using hb
  subst e
  obtain ⟨o,e,c,d⟩:=st
  exact ⟨o,e,fun v z=>by rw [d] at z;cases z⟩
 keep:=fun i h h' st k=>let ⟨o,ho,r⟩:=st;⟨o,k it (by simp) o ho,r⟩
 item:=by
  intro X hP hw hK hc i pins s σ H E I hf st hg
  subst hP hw hK
  obtain ⟨f0,f1,f2,f3,f4,f5⟩:=hf it (by simp)
  refine (W X.A (I.ok.hd hc)).item i s _ E hg st fun v h' tk hv st' k=>?_
  obtain ⟨c,u,hc',rfl⟩:=hv
  have I1:Inv X pins σ H { s with heap:=h',toks:=tk }:=I.turned (t':=tk) (fun b o hb e=>k b o (by simpa using hb) e) f0 f1 f3 f4 f5
  obtain ⟨o,e,cl,d⟩:=id st'
  exact ⟨_,rfl,vX (s:={ s with heap:=h',toks:=tk }) e cl d hty ⟨.str ⟨#[c]⟩,H,I1,⟨_,rfl⟩,⟨rfl,c,hc',rfl⟩,st',fun b hb=>(hf b hb).1⟩⟩
 done:=by
  intro X hP hw hK hc i pins s σ H E I hf st hg
  subst hP hw hK
  have hg':i=z.cps.size:=hg
  subst hg'
  obtain ⟨f0,f1,f2,f3,f4,f5⟩:=hf it (by simp)
  exact (W X.A (I.ok.hd hc)).done s _ E st fun h' tk k=>⟨rfl,I.turned (t':=tk) (fun b o hb e=>k b o (by simpa using hb) e) f0 f1 f3 f4 f5⟩
 self:=self
section
variable {X:Cx} {tg:Expr}
theorem N1 {l:Expr} {tl:TE} (hl:PE X l tl):PI X tg l (O1 X.K tl):=by
 intro pins s σ H R I h
 refine bE (hl pins s σ H _ I h) fun v s1 ⟨x,H1,I1,r1,q1⟩=>?_
 have fp:∀ b∈[s1.heap.objs.size],qP X pins H1 b:=fun b hb=>by
  have e:b=s1.heap.objs.size:=by simpa using hb
  subst e
  exact I1.fpOk (Nat.le_refl _) (I1.hok.fresh (Nat.le_refl _))
 rcases q1 with ⟨a,rfl,⟨xs,hq⟩,q⟩ | ⟨a,rfl,⟨xs,hq⟩,q⟩ | ⟨z,rfl,q⟩
 ·cases r1
  obtain ⟨its,rv,p,hz⟩:=I1.list hq
  refine wpAny_pyIter_list p.isList ?_
  exact ⟨s1.heap.objs.size,[s1.heap.objs.size],_,_,H1,rfl,I1.kept (t':=s1.toks) fun b o e=>Heap.get?_push_of_some _ e,GX a _,⟨_,Heap.get?_push_size _ rfl,rfl,rfl⟩,fp,q⟩
 ·cases r1
  obtain ⟨its,rv,p,hz⟩:=I1.tuple hq
  refine wpAny_pyIter_tuple (show s1.heap.IsTuple a its.toArray from p) ?_
  exact ⟨s1.heap.objs.size,[s1.heap.objs.size],_,_,H1,rfl,I1.kept (t':=s1.toks) fun b o e=>Heap.get?_push_of_some _ e,FZ a _,⟨_,Heap.get?_push_size _ rfl,rfl,rfl⟩,fp,q⟩
 ·obtain ⟨t,rfl⟩:=r1
  cases ha:z.cps.all (· < 128)
  ·refine wpAny_pyIter_wide ha ?_
   exact ⟨s1.heap.objs.size,[s1.heap.objs.size],_,_,H1,rfl,I1.kept (t':=s1.toks) fun b o e=>Heap.get?_push_of_some _ e,
    BW z t _ (fun A' hA=>Walks.strWide hA _ z t) (by decide) (fun A i s Q E st h=>wpAny_pyIter_striter_wide st h),⟨_,Heap.get?_push_size _ rfl,rfl,rfl⟩,fp,q⟩
  ·refine wpAny_pyIter_ascii ha ?_
   exact ⟨s1.heap.objs.size,[s1.heap.objs.size],_,_,H1,rfl,I1.kept (t':=s1.toks) fun b o e=>Heap.get?_push_of_some _ e,
    BW z t _ (fun A' hA=>Walks.strAscii hA _ z t) (by decide) (fun A i s Q E st h=>wpAny_pyIter_striter_ascii st h),⟨_,Heap.get?_push_size _ rfl,rfl,rfl⟩,fp,q⟩
end
section
variable {prog:Program} {w:World} {A:Around} {R:Result->Shared->Prop} {s:Shared}
theorem wW {elt target iter:Expr} {ifs:List Expr} {scope:Scope} {pos:Pos} {it acc:Value} {env:Env} (I:Nat->Shared->Prop)
  (turn:∀ n s,I n s->wpAny (model prog w) A (pyNext it) (fun r s₁=>match r with
   | none=>R (.ok .next) s₁
   | some v=>wpAny (model prog w) A (letOwnedTupleGo target it v) (fun _ s₀=>wpAny (model prog w) A (assign target env v) (fun _ s₂ =>
     wpAny (model prog w) A (forIn ifs true fun c r=>if r=true then do let ok <- isTrue c env (eval c env);pure (ForInStep.yield ok) else pure (ForInStep.yield r)) (fun ok s₃ =>
      if ok=true then wpAny (model prog w) A (eval elt env) (fun x s₄ =>
       wpAny (model prog w) A (call (.builtin "list.append") [acc,x]) (fun _ s₅=>∃ m,m < n/\I m s₅) (fun _ _=>False) s₄) (fun _ _=>False) s₃
      else ∃ m,m < n/\I m s₃) (fun _ _=>False) s₂) (fun _ _=>False) s₀) (fun _ _=>False) s₁) (fun _ _=>False) s)
  (n:Nat) (h:I n s) :
  codeAny (model prog w) A (.compLoop (.ListComp elt [⟨target,iter,ifs,0⟩] scope pos) 0 it acc env) R s:=by
 refine codeAny_loop rfl I (fun n s hI=>?_) n h
 show wpAny _ A ((compTurn (.ListComp elt [⟨target,iter,ifs,0⟩] scope pos) 0 it acc env).onRaise (fun x=>do noteFrame x env;theTreesLotGoes x)) _ _ s
 refine wpAny_noted ?_
 rw [compTurn_list]
 refine wpAny_bind (wpAny_standAt (wpAny_bind (wpAny_mono (turn n s hI) (fun r s₁ h₁=>?_) fun _ _ h'=>h'.elim)))
 cases r with
 | none=>exact wpAny_pure h₁
 | some v =>
  refine wpAny_bind (wpAny_mono h₁ (fun _ s₀ h₀=>?_) fun _ _ h'=>h'.elim)
  refine wpAny_bind (wpAny_mono h₀ (fun _ s₂ h₂=>wpAny_bind (wpAny_mono h₂ (fun ok s₃ h₃=>?_) fun _ _ h'=>h'.elim)) fun _ _ h'=>h'.elim)
  cases ok with
  | false=>exact wpAny_pure ⟨rfl,h₃⟩
  | true =>
   exact wpAny_bind (wpAny_bind (wpAny_mono h₃ (fun x s₄ h₄=>wpAny_bind (wpAny_mono h₄ (fun _ s₅ h₅=>wpAny_pure (wpAny_pure ⟨rfl,h₅⟩)) fun _ _ h'=>h'.elim)) fun _ _ h'=>h'.elim))
theorem sP {env:Env}:∀ (names:List (Str × NameKind)) (cs:List (Str × Addr)),(∀ x∈names,x.2=.free->∃ c,env.cells.lookup x.1=some c) ->
  (∀ x c,cs.lookup x=some c->env.cells.lookup x=some c) ->
  ∃ cl,(forIn names cs fun (x:Str × NameKind) (cs:List (Str × Addr))=>(if (x.2 == NameKind.free)=true then do let c <- cellOf env x.1;pure (ForInStep.yield ((x.1,c) :: cs)) else pure (ForInStep.yield cs):Sem (ForInStep (List (Str × Addr)))))=pure cl /\
   (∀ x c,cl.lookup x=some c->env.cells.lookup x=some c)/\(∀ x,(∃ c,cs.lookup x=some c)\/(x,NameKind.free)∈names->∃ c,cl.lookup x=some c)
 | [],cs,_,h=>⟨cs,rfl,h,fun x hx=>by rcases hx with hx | hx;exact hx;cases hx⟩
 | (n,k) :: r,cs,hf,h=>by
  rw [List.forIn_cons]
  by_cases hk:k=.free
  ·subst hk
   obtain ⟨c,hc⟩:=hf (n,.free) List.mem_cons_self rfl
   have e:cellOf env n=pure c:=by unfold cellOf;rw [hc]
   simp only [beq_self_eq_true,if_true,e,pure_bind]
   obtain ⟨cl,h1,h2,h3⟩:=sP r ((n,c) :: cs) (fun x hx=>hf x (List.mem_cons_of_mem _ hx)) (fun x d q=>by
    rw [List.lookup_cons] at q
    split at q
    ·rename_i e;cases q;rw [beq_iff_eq.mp e];exact hc
    ·exact h x d q)
   refine ⟨cl,h1,h2,fun x hx=>h3 x ?_⟩
   rcases hx with ⟨d,hd⟩ | hx
   ·left
    rw [List.lookup_cons]
    split
    ·exact ⟨_,rfl⟩
    ·exact ⟨d,hd⟩
   ·rcases List.mem_cons.mp hx with e | hx
    ·left;cases e;exact ⟨c,by simp [List.lookup_cons]⟩
    ·exact .inr hx
  ·have hb:(k == NameKind.free)=false:=by simpa using hk
   simp only [hb,Bool.false_eq_true,if_false,pure_bind]
   obtain ⟨cl,h1,h2,h3⟩:=sP r cs (fun x hx=>hf x (List.mem_cons_of_mem _ hx)) h
   refine ⟨cl,h1,h2,fun x hx=>h3 x ?_⟩
   rcases hx with hx | hx
   ·exact .inl hx
   ·rcases List.mem_cons.mp hx with e | hx
    ·cases e;exact absurd rfl hk
    ·exact .inr hx
theorem yV {env:Env} {scope:Scope} (hf:∀ x∈scope.names,x.2=.free->∃ c,env.cells.lookup x.1=some c) :
  ∃ cl,closureFor scope env=pure cl/\(∀ x c,cl.lookup x=some c->env.cells.lookup x=some c)/\(∀ x,(x,NameKind.free)∈scope.names->∃ c,cl.lookup x=some c):=by
 obtain ⟨cl,h1,h2,h3⟩:=sP (env:=env) scope.names [] hf (fun x c h=>by cases h)
 refine ⟨cl,?_,h2,fun x hx=>h3 x (.inr hx)⟩
 unfold closureFor
 first
  | exact h1
  | (have:_:=h1;simpa using this)
end
def eA (X:Cx) (N:List Str) (scope:Scope) (cl:List (Str × Addr)) (C:Addr) (s:Shared) (H:Hp) (fp:List Addr):Cx where
 prog:=X.prog
 w:=X.w
 K:=X.K
 mg:=X.mg
 base:=X.base
 A:=X.A
 N:=N
 s₀:=s
 H₀:=H
 env:=compEnvC scope cl C X.env
 outer:=X.stack
 stack:=X.stack
 ex:=fp
 fn:=fun _=>false
 calm:=X.calm
 pn:=[]
 xe:=fun _ _=>False
def BF (X:Cx) (ifs:List Expr) (t:TT):Prop :=
 ∀ (pins:List (Addr × Obj)) (s:Shared) (σ:L2.St) (H:Hp) (Q:Bool->Hp->Prop),Inv X pins σ H s->t σ H Q ->
  wpAny (model X.prog X.w) X.A (forIn ifs true fun c r=>if r=true then do let ok <- isTrue c X.env (eval c X.env);pure (ForInStep.yield ok) else pure (ForInStep.yield r)) (TP X pins σ Q) X.xe s
def Jw:TT:=fun _ H Q=>Q true H
theorem DS {X:Cx}:BF X [] Jw:=fun pins s σ H Q I h=>wpAny_tests_nil ⟨H,I,h⟩
theorem MH {X:Cx} {c:Expr} {t:TT} (h:PT X c t):BF X [c] t:=fun pins s σ H Q I q=>wpAny_tests_one (h pins s σ H Q I q)
def GK (k:Nat) (g:TG):Prop:=∀ x σ H Q,g x σ H Q->g x σ H (fun σ2 H2=>(∀ j,k<=j->σ2[j]?=σ[j]?)/\Q σ2 H2)
def HY (k:Nat) (g:oZ):Prop:=∀ xs σ H Q,g xs σ H Q->g xs σ H (fun σ2 H2=>(∀ j,k<=j->σ2[j]?=σ[j]?)/\Q σ2 H2)
theorem EB {k i:Nat} (h:i < k):GK k (pX i):=fun x σ H Q q=>⟨fun j hj=>by rw [List.getElem?_set,if_neg (by omega)],q⟩
theorem PQ {k:Nat}:HY k CL:=fun xs σ H Q q=>⟨q.1,fun j _=>rfl,q.2⟩
theorem L0 {k:Nat} {g:TG} {r:oZ} (h1:GK k g) (h2:HY k r) (m2:∀ xs σ H Q Q',(∀ σ2 H2,Q σ2 H2->Q' σ2 H2)->r xs σ H Q->r xs σ H Q') (m1:∀ x σ H Q Q',(∀ σ2 H2,Q σ2 H2->Q' σ2 H2)->g x σ H Q->g x σ H Q'):HY k (zX g r):=fun xs σ H Q q=>by
 obtain ⟨v,r',rfl,q⟩:=q
 refine ⟨v,r',rfl,m1 _ _ _ _ _ (fun σ2 H2 z=>?_) (h1 _ _ _ _ q)⟩
 exact m2 _ _ _ _ _ (fun σ3 H3 y=>⟨fun j hj=>(y.1 j hj).trans (z.1 j hj),y.2⟩) (h2 _ _ _ _ z.2)
theorem O6 {i:Nat}:∀ x σ H (Q Q':L2.St->Hp->Prop),(∀ σ2 H2,Q σ2 H2->Q' σ2 H2)->pX i x σ H Q->pX i x σ H Q':=fun x σ H Q Q' h q=>h _ _ q
theorem P7:∀ xs σ H (Q Q':L2.St->Hp->Prop),(∀ σ2 H2,Q σ2 H2->Q' σ2 H2)->CL xs σ H Q->CL xs σ H Q':=fun x σ H Q Q' h q=>⟨q.1,h _ _ q.2⟩
theorem OD {g:TG} {r:oZ} (m1:∀ x σ H Q Q',(∀ σ2 H2,Q σ2 H2->Q' σ2 H2)->g x σ H Q->g x σ H Q') (m2:∀ xs σ H Q Q',(∀ σ2 H2,Q σ2 H2->Q' σ2 H2)->r xs σ H Q->r xs σ H Q') :
  ∀ xs σ H (Q Q':L2.St->Hp->Prop),(∀ σ2 H2,Q σ2 H2->Q' σ2 H2)->zX g r xs σ H Q->zX g r xs σ H Q':=fun xs σ H Q Q' h q=>by
 obtain ⟨v,r',rfl,q⟩:=q
 exact ⟨v,r',rfl,m1 _ _ _ _ _ (fun σ2 H2 z=>m2 _ _ _ _ _ h z) q⟩
theorem OI {K:PySem.W.Frag} {k n:Nat} {r:oZ} (h:HY k r):GK k (CC K n r):=fun x σ H Q q=>by
 obtain ⟨a,xs,rfl,h1,h2,q⟩:=q
 exact ⟨a,xs,rfl,h1,h2,h _ _ _ _ q⟩
theorem Qf {K:PySem.W.Frag} {n:Nat} {r:oZ} (m2:∀ xs σ H Q Q',(∀ σ2 H2,Q σ2 H2->Q' σ2 H2)->r xs σ H Q->r xs σ H Q') :
  ∀ x σ H (Q Q':L2.St->Hp->Prop),(∀ σ2 H2,Q σ2 H2->Q' σ2 H2)->CC K n r x σ H Q->CC K n r x σ H Q':=fun x σ H Q Q' h q=>by
 obtain ⟨a,xs,rfl,h1,h2,q⟩:=q
 exact ⟨a,xs,rfl,h1,h2,m2 _ _ _ _ _ h q⟩
theorem Bf {X:Cx} {tg elt iter:Expr} {ifs:List Expr} {scope:Scope} {pos:Pos} {N:List Str} {k:Nat} {ix:List Nat} {wi:TI} {g:TG} {tc:TT} {te:TE}
  (hc:X.calm=true) (hi:PI X tg iter wi) (gk:GK k g)
  (hk:scope.kind=.function) (hcell:∀ y∈scope.names,y.2≠.cell) (hnames:∀ y∈scope.names,y.2=.local->scope.names.lookup y.1=some .local)
  (hfree:∀ y∈scope.names,y.2=.free->X.env.kindOf y.1=some .cell\/X.env.kindOf y.1=some .free)
  (hone:∀ y∈scope.names,y.2=.free->scope.names.lookup y.1=some .free)
  (hN:∀ (j:Nat) x,N[k + j]?=some x->∃ i,ix[j]?=some i/\X.N[i]?=some x)
  (hcap:∀ (j:Nat) x,N[k + j]?=some x->scope.names.lookup x=some .free)
  (hlen:N.length=k + ix.length)
  (hg:∀ cl C s H fp,PG (eA X N scope cl C s H fp) tg g)
  (hif:∀ cl C s H fp,BF (eA X N scope cl C s H fp) ifs tc)
  (he:∀ cl C s H fp,PE (eA X N scope cl C s H fp) elt te)
  (hs:∀ x,foldedSetIterable iter X.env x=pure x) {pins:List (Addr × Obj)} {s:Shared} {σ:L2.St} {H:Hp} {Q:VK} (I:L2.Inv X pins σ H s) (h:vU k ix wi g tc te σ H Q) {pos':Pos} {use:Option (Value->Sem Unit)} {QQ:Value->Shared->Prop}
  (end_:∀ (D C:Addr) (H3:Hp) (s4:Shared),L2.Inv X pins σ H3 s4->(∃ m,s4.heap.Ns C m)->H3 C=none->C≠X.env.locals->X.s₀.heap.objs.size<=C->(∀ x c,X.env.cells.lookup x=some c->c≠C)->(∀ p∈X.pn++pins,p.1≠C) ->
   (∀ h':Heap,Heap.SameBut C s4.heap h'->L2.Inv X pins σ H3 { s4 with heap:=h' })->Q (.ref D) H3->compPost (model X.prog X.w) X.A X.xe use QQ (.ref D) C (.ok .next) s4) :
  wpAny (model X.prog X.w) X.A (comprehension (.ListComp elt [⟨tg,iter,ifs,0⟩] scope pos) scope X.env pos' (newList []) false (eval iter X.env) use) QQ X.xe s:=by
 obtain ⟨cl,hclos,hcl,hcl2⟩:=yV (env:=X.env) (scope:=scope) (fun x hx e=>I.ok.has x.1 (hfree x hx e))
 refine wpAny_comprehension_free (use:=use) rfl hs hclos hk hnames (bE (hi pins s σ H _ I h) fun v s1 h1=>bE h1 fun itv s2 h2=>?_)
 obtain ⟨it,fp,tn,J,H2,rfl,I2,T,st2,f2,h2⟩:=h2
 refine wpAny_newObj_type (wpAny_newFunctionEnv hcell (by intro y hy;simp at hy) (fun h₁ hns₁ hsb₁=>?_) hk)
 dsimp only at hns₁ hsb₁ ⊢
 generalize hP:s2.heap.push { cls:=.type "list",dict:=none,data:=.seq ([]:List Value).toArray }=P2 at hns₁ hsb₁ ⊢
 have hCs:P2.objs.size=s2.heap.objs.size + 1:=by rw [<- hP,Heap.size_push]
 have below:∀ b,b < s2.heap.objs.size->b≠P2.objs.size:=fun b hb=>by rw [hCs];omega
 have old:∀ b o,s2.heap.get? b=some o->h₁.get? b=some o:=fun b o e=>hsb₁.extBut b o (below b (Heap.lt_size e)) (Heap.get?_push_of_some _ (hP ▸ Heap.get?_push_of_some _ e))
 have hacc:h₁.get? s2.heap.objs.size=some { cls:=.type "list",dict:=none,data:=.seq ([]:List Value).toArray }:=hsb₁.extBut _ _ (show s2.heap.objs.size≠P2.objs.size by rw [hCs];exact Nat.ne_of_lt (Nat.lt_succ_self _)) (Heap.get?_push_of_some _ (hP ▸ Heap.get?_push_size _ rfl))
 obtain ⟨W,⟨m0,w0⟩,turn⟩:=h2 s2.heap.objs.size (I2.hok.fresh (Nat.le_refl _))
 have fpl:∀ b∈fp,b < s2.heap.objs.size:=fun b hb=>let ⟨o,e,_⟩:=T.obj _ _ st2 b hb;Heap.lt_size e
 have σl:(cY k ix σ).length=N.length:=by rw [hlen];simp [cY]
 have i2:=I2.ok
 have ok':(eA X N scope cl P2.objs.size s2 H2 fp).Ok:=by
  refine ⟨i2.mod,hk,i2.glob,i2.blt,(by show s2.heap.objs.size<=P2.objs.size;rw [hCs];exact Nat.le_succ _),fun x y c e1 e2=>i2.inj x y c (hcl x c e1) (hcl y c e2),fun x hx=>?_,(fun x c e=>by cases e),i2.hd,i2.frames,.inl rfl,fun b hb=>?_,fun b o e=>I2.bs b o e,Nat.le_trans i2.bsz I2.sz,fun b o e hb=>?_,fun b hb hb2=>?_,I2.stack,I2.stkFree⟩
  ·
   have hx':(relabel scope X.env).names.lookup x=some .cell\/(relabel scope X.env).names.lookup x=some .free:=hx
   have key:∀ (names:List (Str × NameKind)),(∀ y∈names,y.2≠.cell)->((names.map fun (n,k)=>if (k == NameKind.free && X.env.scope.kind == .function && X.env.kindOf n == some .cell) then (n,NameKind.cell) else (n,k)).lookup x=some .cell \/
     (names.map fun (n,k)=>if (k == NameKind.free && X.env.scope.kind == .function && X.env.kindOf n == some .cell) then (n,NameKind.cell) else (n,k)).lookup x=some .free)->(x,NameKind.free)∈names:=by
    intro names
    induction names with
    | nil=>intro _ h;rcases h with h | h <;> cases h
    | cons y r ih =>
     obtain ⟨n,kd⟩:=y
     intro hnc h
     by_cases hxn:x=n
     ·subst hxn
      have hkc:kd≠.cell:=hnc (x,kd) List.mem_cons_self
      by_cases hkf:kd=.free
      ·subst hkf;exact List.mem_cons_self
      ·exfalso
       have hb:(kd == NameKind.free)=false:=by simpa using hkf
       simp only [List.map_cons,hb,Bool.false_and,Bool.false_eq_true,if_false,List.lookup_cons,beq_self_eq_true] at h
       rcases h with h | h
       ·exact hkc (Option.some.inj h)
       ·exact hkf (Option.some.inj h)
     ·have hb:(x == n)=false:=by simpa using hxn
      refine List.mem_cons_of_mem _ (ih (fun y hy=>hnc y (List.mem_cons_of_mem _ hy)) ?_)
      have e1:∀ z:NameKind,List.lookup x (((n,z)) :: (r.map fun (n,k)=>if (k == NameKind.free && X.env.scope.kind == .function && X.env.kindOf n == some .cell) then (n,NameKind.cell) else (n,k)))=List.lookup x (r.map fun (n,k)=>if (k == NameKind.free && X.env.scope.kind == .function && X.env.kindOf n == some .cell) then (n,NameKind.cell) else (n,k)):=fun z=>by rw [List.lookup_cons,hb]
      rw [List.map_cons] at h
      dsimp only at h
      split at h
      ·rw [e1] at h;exact h
      ·rw [e1] at h;exact h
   exact hcl2 x (key scope.names hcell hx')
  ·exact ⟨below b (fpl b hb),fun x c e=>(f2 b hb).2.2.2.2.1 x c (hcl x c e)⟩
  ·rcases (f2 b hb).2.2.2.1 with z | z
   ·exact i2.noex b o e z
   ·exact absurd (Nat.lt_of_lt_of_le (Heap.lt_size e) (Nat.le_trans i2.bsz z)) (Nat.lt_irrefl _)
  ·rcases List.mem_cons.mp (I2.stkSub b hb2) with z | z
   ·exact (f2 b hb).2.1 z
   ·exact (f2 b hb).2.2.1 z
 have stat:∀ {H':Hp},(∀ b∈fp,H' b=none)->∀ b∈fp,qP (eA X N scope cl P2.objs.size s2 H2 fp) [] H' b:=fun hn b hb =>
  ⟨hn b hb,below b (fpl b hb),fun z=>ok'.exfs b hb z,.inl hb,fun x c e=>(f2 b hb).2.2.2.2.1 x c (hcl x c e),(fun p hp=>by cases hp)⟩
 have hD:H2 s2.heap.objs.size=none:=I2.hok.fresh (Nat.le_refl _)
 have relf:∀ x,scope.names.lookup x=some .free->(X.env.kindOf x=some .cell\/X.env.kindOf x=some .free)->((relabel scope X.env).names.lookup x=some .cell\/(relabel scope X.env).names.lookup x=some .free):=by
  intro x hx hkx
  have key:∀ (names:List (Str × NameKind)),names.lookup x=some .free->((names.map fun (n,k)=>if (k == NameKind.free && X.env.scope.kind == .function && X.env.kindOf n == some .cell) then (n,NameKind.cell) else (n,k)).lookup x=some .cell \/
    (names.map fun (n,k)=>if (k == NameKind.free && X.env.scope.kind == .function && X.env.kindOf n == some .cell) then (n,NameKind.cell) else (n,k)).lookup x=some .free):=by
   intro names
   induction names with
   | nil=>intro h;cases h
   | cons y r ih =>
    obtain ⟨n,kd⟩:=y
    intro h
    rw [List.lookup_cons] at h
    by_cases hxn:x=n
    ·subst hxn
     simp only [beq_self_eq_true] at h
     cases h
     rw [List.map_cons]
     dsimp only
     split
     ·left;simp [List.lookup_cons]
     ·right;simp [List.lookup_cons]
    ·have hb:(x == n)=false:=by simpa using hxn
     rw [hb] at h
     have:=ih h
     rw [List.map_cons]
     dsimp only
     split
     ·rw [List.lookup_cons,hb];exact this
     ·rw [List.lookup_cons,hb];exact this
  exact key scope.names hx
 have Istart:∀ tk,Inv (eA X N scope cl P2.objs.size s2 H2 fp) [] (cY k ix σ) (upd H2 s2.heap.objs.size (.lst [])) { s2 with heap:=h₁,toks:=tk }:=fun tk=>by
  refine ⟨ok',rfl,I2.bare,Un.laid old (Nat.le_refl _) hD,⟨_,hns₁,fun i x v e1 e2 e3=>?_⟩,fun x c e=>?_,?_,fun x c e=>?_,(fun p hp=>by cases hp),I2.hok.laid old (Nat.le_refl _) ⟨Nat.zero_le _,[],_,.nil,hacc⟩,σl⟩
  ·by_cases hik:i < k
   ·exfalso
    unfold cY at e2
    rw [List.getElem?_append_left (by simpa using hik),List.getElem?_replicate] at e2
    split at e2 <;> cases e2
   ·have ej:i=k + (i - k):=by omega
    have e1':N[k + (i - k)]?=some x:=by rw [<- ej];exact e1
    obtain ⟨i0,hi0,hXN⟩:=hN (i - k) x e1'
    have hfx:=hcap (i - k) x e1'
    have hmem:(x,NameKind.free)∈scope.names:=PySem.mem_of_lookup hfx
    have hkx:=hfree _ hmem rfl
    have e4:σ[i0]?=some (some v):=by
     unfold cY at e2
     rw [List.getElem?_append_right (by simpa using Nat.le_of_not_lt hik),List.getElem?_map] at e2
     simp only [List.length_replicate,hi0,Option.map_some,Option.some.injEq] at e2
     cases z:σ[i0]? with
     | none=>rw [z] at e2;cases e2
     | some y=>rw [z] at e2;simp only [Option.getD_some] at e2;rw [e2]
    obtain ⟨m2,hn2,hl2⟩:=I2.loc
    obtain ⟨u,ru,lk⟩:=hl2 i0 x v hXN e4 (by rcases hkx with z | z;exact .inr (.inl z);exact .inr (.inr z))
    rcases lk with ⟨z,_⟩ | ⟨_,c,hc1,hc2⟩
    ·exfalso
     have z':X.env.kindOf x=some .local:=z
     rcases hkx with y | y <;> (rw [z'] at y;cases y)
    ·obtain ⟨c',hc'⟩:=hcl2 x hmem
     have e5:=hcl x c' hc'
     rw [hc1] at e5;cases e5
     obtain ⟨o,ho,hd⟩:=hc2
     exact ⟨u,ru,.inr ⟨relf x hfx hkx,c,hc',o,old _ _ ho,hd⟩⟩
  ·obtain ⟨v,o,ho,hd⟩:=I2.cell x c (hcl x c e)
   exact ⟨v,o,old _ _ ho,hd⟩
  ·show upd H2 s2.heap.objs.size (.lst []) P2.objs.size=none
   rw [bL (show P2.objs.size≠s2.heap.objs.size by rw [hCs];exact Nat.succ_ne_self _)]
   exact I2.hok.fresh (show s2.heap.objs.size<=P2.objs.size by rw [hCs];exact Nat.le_succ _)
  ·have e':=hcl x c e
   obtain ⟨v,o,ho,hd⟩:=I2.cell x c e'
   rw [bL (Nat.ne_of_lt (Heap.lt_size ho))]
   exact I2.freeC x c e'
 have st1:tn 0 h₁:=T.keep 0 _ _ st2 fun b hb o e=>old b o e
 have fr1:∀ b∈fp,upd H2 s2.heap.objs.size (.lst []) b=none:=fun b hb=>by rw [bL (Nat.ne_of_lt (fpl b hb))];exact (f2 b hb).1
 have fin:∀ (H3:Hp) (s4:Shared),Inv (eA X N scope cl P2.objs.size s2 H2 fp) [] (cY k ix σ) H3 s4->∀ h':Heap,Heap.SameBut P2.objs.size s4.heap h'->Inv X pins σ H3 { s4 with heap:=h' }:=fun H3 s4 I4 h' sb=>by
  have kp:∀ b o,b < s2.heap.objs.size->s4.heap.get? b=some o->h'.get? b=some o:=fun b o hb e=>sb.extBut b o (below b hb) e
  have u:Un (r9 X.stack) fp H2 H3 s2.heap s4.heap:=I4.base
  refine I2.call' (ch:=fp) (H':=H3) I4.os ⟨fun b o q n hb hx=>kp b o (Heap.lt_size q) (u.keep b o q n hb hx),fun b o q n hb hx=>?_,u.free,fun b o q hx=>?_,u.tups,u.frzs,u.tbls⟩ (fun a o e=>?_) I4.bare fun b hb=>⟨(f2 b hb).2.2.2.1,(f2 b hb).2.1,(f2 b hb).2.2.2.2.1,(f2 b hb).2.2.2.2.2⟩
  ·obtain ⟨sl,e⟩:=u.slot b o q n hb hx
   exact ⟨sl,kp b _ (Heap.lt_size q) e⟩
  ·obtain ⟨o',e⟩:=u.there b o q hx
   exact ⟨o',kp b _ (Heap.lt_size q) e⟩
  ·have nC:H3 P2.objs.size=none:=I4.free
   refine (I4.hok a o e).stay (fun b z hb q=>sb.extBut b z ?_ q) (fun _ q=>q) fun _ _ q=>q
   rcases hb with rfl | hb
   ·exact cN e nC
   ·exact cN hb nC
 have loop:∀ tk,codeAny (model X.prog X.w) X.A (.compLoop (.ListComp elt [⟨tg,iter,ifs,0⟩] scope pos) 0 (.ref it) (.ref s2.heap.objs.size) (compEnvC scope cl P2.objs.size X.env))
   (compPost (model X.prog X.w) X.A X.xe use QQ (.ref s2.heap.objs.size) P2.objs.size) { s2 with heap:=h₁,toks:=tk }:=fun tk=>by
  refine wW (fun n s'=>∃ i H',Inv (eA X N scope cl P2.objs.size s2 H2 fp) [] (cY k ix σ) H' s'/\tn i s'.heap/\(∀ b∈fp,H' b=none)/\W i n H') ?_ m0 ⟨0,_,Istart tk,st1,fr1,w0⟩
  rintro n s3 ⟨i,H3,I3,st3,fr3,w3⟩
  rcases turn i n H3 w3 with ⟨stop,q⟩ | ⟨go,step⟩
  ·refine bE (T.done (eA X N scope cl P2.objs.size s2 H2 fp) rfl rfl rfl hc i [] s3 _ H3 (fun _ _=>False) I3 (stat fr3) st3 stop) fun r s4 ⟨hr,I4⟩=>?_
   subst hr
   obtain ⟨m,hn,_⟩:=I4.loc
   refine end_ s2.heap.objs.size P2.objs.size H3 s4 (fin H3 s4 I4 s4.heap (Heap.SameBut.refl ..)) ⟨m,hn⟩ I4.free (Ne.symm (below _ I2.lt)) (Nat.le_trans I2.sz (show s2.heap.objs.size<=P2.objs.size by rw [hCs];exact Nat.le_succ _)) (fun x c e=>?_) (fun p hp=>below _ (Heap.lt_size (I2.pin p hp).1)) (fin H3 s4 I4) q
   obtain ⟨v,o,ho,_⟩:=I2.cell x c e
   exact below _ (Heap.lt_size ho)
  ·refine bE (T.item (eA X N scope cl P2.objs.size s2 H2 fp) rfl rfl rfl hc i [] s3 _ H3 (fun _ _=>False) I3 (stat fr3) st3 go) fun r s4 ⟨u,hr,h4⟩=>?_
   subst hr
   refine bE h4 fun _ s5 ⟨x,H5,I5,r5,y5,st5,fr5⟩=>?_
   have I5':=I5.pinned (stat fr5) (T.obj _ _ st5)
   refine bE (hg cl P2.objs.size s2 H2 fp _ s5 _ H5 x u _ I5' r5 (gk _ _ _ _ (step x H5 y5))) fun _ s6 ⟨σ6,H6,I6,ag,q6⟩=>?_
   have again:∀ {s7:Shared} {H7:Hp} {m':Nat},Inv (eA X N scope cl P2.objs.size s2 H2 fp) ([]++rU fp s5.heap) σ6 H7 s7->m' < n->W (i + 1) m' H7->∃ m,m < n/\∃ i H',Inv (eA X N scope cl P2.objs.size s2 H2 fp) [] (cY k ix σ) H' s7/\tn i s7.heap/\(∀ b∈fp,H' b=none)/\W i m H':=fun {s7 H7 m'} I7 hm w7=>by
    refine ⟨m',hm,i + 1,H7,(I7.unpinned).weak (by rw [σl];exact (I7.len).symm) (fun j v e=>?_),T.keep _ _ _ st5 fun b hb o e=>(I7.pin (b,o) (List.mem_append_right _ (List.mem_append_right _ (kG hb e)))).1,fun b hb=>?_,w7⟩
    ·by_cases hj:j < k
     ·exfalso
      unfold cY at e
      rw [List.getElem?_append_left (by simpa using hj),List.getElem?_replicate] at e
      split at e <;> cases e
     ·rw [ag j (by omega)];exact e
    ·obtain ⟨o,e,d⟩:=T.obj _ _ st5 b hb
     exact (I7.pin (b,o) (List.mem_append_right _ (List.mem_append_right _ (kG hb e)))).2.1
   refine bE (hif cl P2.objs.size s2 H2 fp _ s6 σ6 H6 _ I6 q6) fun ok s7 ⟨H7,I7,q7⟩=>?_
   cases ok with
   | false =>
    obtain ⟨m',hm,w7⟩:=q7
    exact again I7 hm w7
   | true =>
    refine bE (he cl P2.objs.size s2 H2 fp _ s7 σ6 H7 _ I7 q7) fun y s8 ⟨yv,H8,I8,r8,ys,hD8,hz8,m',hm,w8⟩=>?_
    refine bE (u9 _ s8 σ6 H8 (.ref s2.heap.objs.size) [yv] (.ref s2.heap.objs.size) [y] (fun v H9=>H9=upd H8 s2.heap.objs.size (.lst (ys++[yv]))) I8 rfl (.cons r8 .nil) ⟨_,ys,yv,rfl,rfl,hD8,hz8,rfl⟩) fun _ s9 ⟨_,H9,I9,_,e9⟩=>?_
    subst e9
    exact again I9 hm w8
 exact codeAny_compStart_list (loop _) (T.self _ 0 _ _ _ st1 (loop _))
theorem MM {X:Cx} {tg elt iter:Expr} {ifs:List Expr} {scope:Scope} {pos:Pos} {N:List Str} {k:Nat} {ix:List Nat} {wi:TI} {g:TG} {tc:TT} {te:TE}
  (hc:X.calm=true) (hi:PI X tg iter wi) (gk:GK k g)
  (hk:scope.kind=.function) (hcell:∀ y∈scope.names,y.2≠.cell) (hnames:∀ y∈scope.names,y.2=.local->scope.names.lookup y.1=some .local)
  (hfree:∀ y∈scope.names,y.2=.free->X.env.kindOf y.1=some .cell\/X.env.kindOf y.1=some .free)
  (hone:∀ y∈scope.names,y.2=.free->scope.names.lookup y.1=some .free)
  (hN:∀ (j:Nat) x,N[k + j]?=some x->∃ i,ix[j]?=some i/\X.N[i]?=some x)
  (hcap:∀ (j:Nat) x,N[k + j]?=some x->scope.names.lookup x=some .free)
  (hlen:N.length=k + ix.length)
  (hg:∀ cl C s H fp,PG (eA X N scope cl C s H fp) tg g)
  (hif:∀ cl C s H fp,BF (eA X N scope cl C s H fp) ifs tc)
  (he:∀ cl C s H fp,PE (eA X N scope cl C s H fp) elt te)
  (hs:∀ x,foldedSetIterable iter X.env x=pure x:=by intro _;rfl) :
  PE X (.ListComp elt [⟨tg,iter,ifs,0⟩] scope pos) (vU k ix wi g tc te):=by
 intro pins s σ H Q I h
 rw [eval_ListComp]
 refine Bf (use:=none) hc hi gk hk hcell hnames hfree hone hN hcap hlen hg hif he hs I h fun D C H3 s4 I4 ⟨m,hn⟩ _ _ _ _ _ fin q=>?_
 exact ⟨m,hn,fun h' sb=>⟨.ref D,H3,fin h' sb,rfl,q⟩⟩
theorem NC {X:Cx} {tg elt iter:Expr} {ifs:List Expr} {scope:Scope} {pos spos py:Pos} {N:List Str} {k:Nat} {ix:List Nat} {wi:TI} {g:TG} {tc:TT} {te:TE} {i:Nat} {y:Str}
  (hc:X.calm=true) (hi:PI X tg iter wi) (gk:GK k g)
  (hk:scope.kind=.function) (hcell:∀ y∈scope.names,y.2≠.cell) (hnames:∀ y∈scope.names,y.2=.local->scope.names.lookup y.1=some .local)
  (hfree:∀ y∈scope.names,y.2=.free->X.env.kindOf y.1=some .cell\/X.env.kindOf y.1=some .free)
  (hone:∀ y∈scope.names,y.2=.free->scope.names.lookup y.1=some .free)
  (hN:∀ (j:Nat) x,N[k + j]?=some x->∃ i,ix[j]?=some i/\X.N[i]?=some x)
  (hcap:∀ (j:Nat) x,N[k + j]?=some x->scope.names.lookup x=some .free)
  (hlen:N.length=k + ix.length)
  (hg:∀ cl C s H fp,PG (eA X N scope cl C s H fp) tg g)
  (hif:∀ cl C s H fp,BF (eA X N scope cl C s H fp) ifs tc)
  (he:∀ cl C s H fp,PE (eA X N scope cl C s H fp) elt te)
  (hs:∀ x,foldedSetIterable iter X.env x=pure x) (hsw:swapsWith (.ListComp elt [⟨tg,iter,ifs,0⟩] scope pos) (some (.Name y py)) spos.line X.env=pure true)
  (hNd:X.N.Nodup) (hiy:X.N[i]?=some y) (hy:Loc X.env.scope y) (hf:X.fn y=true\/X.env.scope.names.lookup y=some .local) :
  PS X (.Assign [.Name y py] (.ListComp elt [⟨tg,iter,ifs,0⟩] scope pos) spos) (Gf (vU k ix wi g tc te) (pX i)):=by
 intro pins s σ H D I h
 rw [exec_Assign_Name_used _ _ _ _ hsw]
 refine wpAny_bind (wpAny_standAt (wpAny_bind ?_))
 show wpAny _ X.A (do let _ <- comprehension (.ListComp elt [⟨tg,iter,ifs,0⟩] scope pos) scope X.env _ (newList []) false (eval iter X.env) (some (assign (.Name y py) X.env))) _ _ s
 refine wpAny_bind (wpAny_mono (Bf (use:=some (assign (.Name y py) X.env)) (QQ:=fun _ s'=>SP X pins D .next s') hc hi gk hk hcell hnames hfree hone hN hcap hlen hg hif he hs I h fun A C H3 s4 I4 hn nC nL sC cC pC fin q=>?_) (fun _ s' hq=>wpAny_pure (wpAny_pure hq)) fun _ _ e=>e)
 show wpAny _ X.A (assign (.Name y py) X.env (.ref A)) _ _ _
 refine wpAny_assign_Name (Bg (i:=i) (v:=.ref A) I4 hNd hiy hy rfl (fun s5 I5 ⟨a,sb,ha⟩=>?_) hf)
 obtain ⟨m,hn⟩:=hn
 have aC:C≠a:=by
  rcases ha with z | z
  ·rw [z];exact nL
  ·exact fun e=>cC y a z e.symm
 refine ⟨m,hn.at' fun o e=>sb.extBut C o aC e,fun h' sb'=>?_⟩
 exact ⟨_,H3,I5.turned (t':=s5.toks) (fun b o hb e=>sb'.extBut b o hb e) nC nL (.inr sC) cC pC,q⟩
section
variable {X:Cx}
theorem My:dD X (binaryOp .Add) (Gr X.K):=by
 intro pins s σ H x y v u Q I rx ry h
 obtain ⟨l,b,xs,zs,rfl,rfl,hH,hB,hz,q⟩:=h
 cases rx
 cases ry
 obtain ⟨its,r,p,hl⟩:=I.list hH
 obtain ⟨its2,r2,p2,hl2⟩:=I.list hB
 obtain ⟨⟨cls,dd,data,sl⟩,n,ho,hc,_,hd⟩:=p
 obtain ⟨⟨cls2,dd2,data2,sl2⟩,n2,ho2,hc2,_,hd2⟩:=p2
 simp only at hc hd hc2 hd2
 subst hc hd hc2 hd2
 have q1:=r.length
 have q2:=r2.length
 have e:its.toArray++its2.toArray=(its++its2).toArray:=by simp
 refine concat_meets ⟨_,ho,rfl⟩ ⟨_,ho2,rfl⟩ noFill_list_add seq_list_add PySem.F.slot_list_add PySem.F.entry_list_add (PySem.F.args_list_add_2 _ _) (list_addW l b its.toArray its2.toArray n n2 dd dd2 sl sl2 (by rw [List.size_toArray,List.size_toArray];omega)) ⟨ho,ho2,?_⟩
 rw [e]
 exact ⟨.ref _,_,I.lnew (t':=s.toks) (r.append r2) (by rw [List.length_append];omega),rfl,q _ I.fresh⟩
theorem Kg:dD X (binaryOp .Add) (CF X.K):=by
 intro pins s σ H x y v u Q I rx ry h
 obtain ⟨a,b,xs,ys,rfl,rfl,ha,hb,hz,q0,q1,q2⟩:=h
 by_cases hx:xs=[]
 ·cases rx
  cases ry
  obtain ⟨its,r1,p1,_⟩:=I.tuple ha
  obtain ⟨its2,r2,p2,_⟩:=I.tuple hb
  obtain ⟨⟨cls,dd,data,sl⟩,ho,hc,n,hd⟩:=p1
  obtain ⟨⟨cls2,dd2,data2,sl2⟩,ho2,hc2,n2,hd2⟩:=p2
  simp only at hc hd hc2 hd2
  subst hc hd hc2 hd2
  have e:its=[]:=r1.nil_iff.mpr hx
  exact concat_meets ⟨_,ho,rfl⟩ ⟨_,ho2,rfl⟩ noFill_tuple_add seq_tuple_add PySem.F.slot_tuple_add PySem.F.entry_tuple_add (PySem.F.args_tuple_add_2 _ _) (tuple_addW0 a b its.toArray its2.toArray n n2 dd dd2 sl sl2 (by rw [e];rfl)) ⟨ho,ho2,.ref b,H,I,rfl,q0 hx⟩
 ·exact Mu pins s σ H _ _ v u Q I rx ry ⟨a,b,xs,ys,rfl,rfl,ha,hb,hx,hz,q1 hx,q2 hx⟩
theorem NO:wR X (fun x lo hi H Q=>∃ z:Str,x=.str z/\z.length<=sizeLine/\Q (.str (Txt.slice z lo hi)) H):=by
 intro pins s σ H x v vl vu lo hi sl Q I rx hs pl pu h
 obtain ⟨z,rfl,hz,q⟩:=h
 obtain ⟨t,rfl⟩:=rx
 refine ⟨"str",_,F.slot_str_getitem.lookup,typeIs_str _ _ _,?_⟩
 have fin:∀ t' k,EP X pins σ Q (.str (Txt.slice z lo hi) t') { s with toks:=k }:=fun t' k=>⟨.str (Txt.slice z lo hi),H,I.tok k,⟨t',rfl⟩,q⟩
 cases pl with
 | none=>cases pu with
  | none=>exact wpAny_getItem_str_slice (l:=none) (u:=none) (st:=none) hs rfl (post_val_or_str ⟨Nat.le_trans (Txt.slice_le z _ _) hz,fun t' k=>fin t' k⟩)
  | int j uj=>exact wpAny_getItem_str_slice (l:=none) (u:=some (j,uj)) (st:=none) hs rfl (post_val_or_str ⟨Nat.le_trans (Txt.slice_le z _ _) hz,fun t' k=>fin t' k⟩)
 | int i ui=>cases pu with
  | none=>exact wpAny_getItem_str_slice (l:=some (i,ui)) (u:=none) (st:=none) hs rfl (post_val_or_str ⟨Nat.le_trans (Txt.slice_le z _ _) hz,fun t' k=>fin t' k⟩)
  | int j uj=>exact wpAny_getItem_str_slice (l:=some (i,ui)) (u:=some (j,uj)) (st:=none) hs rfl (post_val_or_str ⟨Nat.le_trans (Txt.slice_le z _ _) hz,fun t' k=>fin t' k⟩)
theorem Pn:wR X (Pp X.K):=Ni.or (NS.or NO)
theorem Gx (hc:X.calm=true):lF X (.builtin "all") (fun xs H Q=>∃ (p:Addr) (bs:List Bool),xs=[.ref p]/\dY X.K H p (bs.map V.bl)/\Q (.bl (bs.all fun b=>b)) H):=by
 intro pins s σ H xs us Q I r h
 obtain ⟨a,bs,rfl,ha,q⟩:=h
 obtain ⟨u,rfl,ru⟩:=vals1 r
 cases ru
 obtain ⟨its,rv,p,hz⟩:=I.list ha
 have hl:=rv.length
 have hne:a≠s.heap.objs.size:=by
  obtain ⟨o,n,e,_⟩:=p
  exact Nat.ne_of_lt (Heap.lt_size e)
 refine call_all_walk (wpAny_pyIter_list p.isList ?_)
 refine ⟨s.heap.objs.size,_,_,_,_,_,fun i=>(bs[i]?).getD false,rfl,Walks.list (show X.A.in1.handled=none from I.ok.hd hc) s.heap.objs.size a hne its.toArray,⟨⟨_,Heap.get?_push_size _ rfl,rfl,rfl⟩,?_⟩,?_,fun h' tk k=>?_⟩
 ·obtain ⟨o,n,e,c,d,z⟩:=p
  exact ⟨o,Heap.get?_push_of_some _ e,c,n,z⟩
 ·intro i v s' Q' E' hP hQ
  have hv:its[i]?=some v:=by simpa using hP
  have hi:i < bs.length:=by
   have:=(List.getElem?_eq_some_iff.mp hv).1
   rw [<- hl] at this;simpa using this
  obtain ⟨u,hu,ru⟩:=rv.get (i:=i) (x:=.bl bs[i]) (by simp [hi])
  rw [hv] at hu;cases hu
  cases ru
  refine wpAny_truthy_bool ?_
  have:(bs[i]?).getD false=bs[i]:=by simp [hi]
  rw [<- this];exact hQ
 ·have e:(List.range its.toArray.size).all (fun i=>(bs[i]?).getD false)=bs.all fun b=>b:=by
   have:its.toArray.size=bs.length:=by rw [List.size_toArray,<- hl,List.length_map]
   rw [this]
   clear this hl rv p hz k
   rw [Bool.eq_iff_iff]
   simp only [List.all_eq_true,List.mem_range]
   constructor
   ·intro h b hb
    obtain ⟨i,hi,rfl⟩:=List.mem_iff_getElem.mp hb
    have:=h i hi
    simpa [hi] using this
   ·intro h i hi
    have:=h bs[i] (List.getElem_mem hi)
    simpa [hi] using this
  rw [e]
  exact ⟨.bl _,H,I.kept (t':=tk) (fun b o e=>k b o (fun z=>Nat.lt_irrefl _ (Nat.lt_of_lt_of_le (Heap.lt_size e) (Nat.le_of_eq (show s.heap.objs.size=b from (List.mem_singleton.mp z).symm)))) (Heap.get?_push_of_some _ e)),rfl,q⟩
end
end U2
namespace U2
open PySem PySem.Spec PyProof.Rows L2
structure Dat where
 prog:Program
 w:World
 K:PySem.W.Frag
 mg:Str->Option Value
 base:Heap
 N:List Str
 sc:Scope
 k:Nat
 fn:Bool
 cod:Value:=.none
 qual:Str:=""
structure kQ (D:Dat) (X:Cx):Prop where
 prog:X.prog=D.prog
 w:X.w=D.w
 K:X.K=D.K
 mg:X.mg=D.mg
 base:X.base=D.base
 N:X.N=D.N
 sc:X.env.scope=D.sc
 room:eN D.k X.A
 calm:X.calm=true
 xe:X.xe=fun _ _=>False
 fn:D.fn=true->∀ x,X.fn x=true
 cod:D.cod≠.none->X.env.code=D.cod/\X.env.qual=D.qual
def bB (D:Dat) (e:Expr) (t':UE):Prop:=∃ t,(∀ X,kQ D X->PE X e t)/\cI D.K t t'
def pU (D:Dat) (e:Expr) (t':UT):Prop:=∃ t,(∀ X,kQ D X->PT X e t)/\j0 D.K t t'
def kS (D:Dat) (e:Expr) (t':UT):Prop:=∃ t,(∀ X,kQ D X->PW X e t)/\j0 D.K t t'
def lZ (D:Dat) (es:List Expr) (t':UA):Prop:=∃ t,(∀ X,kQ D X->PA X es t)/\kE D.K t t'
def qF (D:Dat) (s:Stmt) (t':US):Prop:=∃ t,(∀ X,kQ D X->PS X s t)/\kT D.K t t'
def oR (D:Dat) (s:List Stmt) (t':US):Prop:=∃ t,(∀ X,kQ D X->qH X s t)/\kT D.K t t'
def EC (D:Dat) (k:Nat) (e:Expr) (g':UG):Prop:=∃ g,(∀ X,kQ D X->PG X e g)/\xY D.K g g'/\GK k g/\∀ x σ H Q Q',(∀ σ2 H2,Q σ2 H2->Q' σ2 H2)->g x σ H Q->g x σ H Q'
def FT (D:Dat) (k:Nat) (es:List Expr) (g':yO):Prop:=∃ g,(∀ X,kQ D X->HE X es g)/\x9 D.K g g'/\HY k g/\∀ x σ H Q Q',(∀ σ2 H2,Q σ2 H2->Q' σ2 H2)->g x σ H Q->g x σ H Q'
def rW (D:Dat) (tg e:Expr) (t':UI):Prop:=∃ t,(∀ X,kQ D X->PI X tg e t)/\nQ D.K t t'
def Lc (D:Dat) (e:Option Expr) (t':UO):Prop:=∃ t,(∀ X,kQ D X->PO X e t)/\CG D.K t t'
def FD (D:Dat) (es:List Expr) (t':UT):Prop:=∃ t,(∀ X,kQ D X->BF X es t)/\j0 D.K t t'
section
variable {D:Dat} {a b c e o:Expr} {ta tb tc te:UE} {pos:Pos}
theorem uv (i:Nat) {x:Str} (hN:D.N[i]?=some x:=by rfl) (hv:HA D.sc x:=by first | exact Or.inl rfl | exact Or.inr (Or.inl rfl) | exact Or.inr (Or.inr rfl)) (hd:(x == ("__debug__":Str))=false:=by decide)
  (hcd:(x == ("__classdict__":Str))=false:=by decide):bB D (.Name x pos) (o5 i) :=
 ⟨_,fun X h=>HD (by rw [h.N];exact hN) (by rw [h.sc];exact hv) hd hcd,En i⟩
theorem aI {i j}:bB D (.Constant (.int i) j pos) (uC (.int i)):=⟨_,fun X h=>PH,NJ⟩
theorem l8 {i j}:bB D (.Constant (.bool i) j pos) (uC (.bl i)):=⟨_,fun X h=>P8,PZ⟩
theorem cM {i j}:bB D (.Constant (.str i) j pos) (uC (.str i)):=⟨_,fun X h=>O7,MI⟩
theorem nH {j}:bB D (.Constant .none j pos) (uC .non):=⟨_,fun X h=>Pk,Nt⟩
theorem Hb {x:Str} {f:Addr} (hm:D.mg x=some (.ref f)) (hg:D.sc.names.lookup x=some .globalImplicit:=by rfl) (hd:(x == ("__debug__":Str))=false:=by decide):bB D (.Name x pos) (uC (.ref f)) :=
 ⟨_,fun X h=>L3 (v:=.ref f) (by show X.env.scope.names.lookup x=_;rw [h.sc];exact hg) (by rw [h.mg];exact hm) rfl hd,ND⟩
theorem yC {x:Str} {n:String} (hm:D.mg x=none) (hv:bootBuiltins x=some (.type n):=by kernel_rfl) (hg:D.sc.names.lookup x=some .globalImplicit:=by rfl) (hn:x≠"__name__":=by decide) (hd:(x == ("__debug__":Str))=false:=by decide):bB D (.Name x pos) (uC (.ty n)) :=
 ⟨_,fun X h=>Nl (v:=.ty n) (by show X.env.scope.names.lookup x=_;rw [h.sc];exact hg) (by rw [h.mg];exact hm) hv rfl hn hd,Ou⟩
theorem uA {op:Operator} {r:R2} {r':dR} (ho:∀ X,kQ D X->dD X (binaryOp op) r) (hr:dS D.K r r') (ha:bB D a ta) (hb:bB D b tb):bB D (.BinOp a op b pos) (kO r' ta tb):=by
 obtain ⟨x,p,s⟩:=ha;obtain ⟨y,q,r⟩:=hb
 exact ⟨_,fun X h=>Qm (ho X h) (p X h) (q X h),vG hr s r⟩
theorem iT (ha:bB D a ta) (hb:bB D b tb):bB D (.BinOp a .Sub b pos) (kO (oO fun i j=>.int (i - j)) ta tb):=uA (fun _ _=>Pw) BY ha hb
theorem lA (ha:bB D a ta) (hb:bB D b tb):bB D (.BinOp a .Mod b pos) (kO (uI (fun _ j=>0 < j) fun i j=>.int (i % j)) ta tb):=uA (fun _ _=>Px) p5 ha hb
theorem oT (ha:bB D a ta) (hb:bB D b tb):bB D (.BinOp a .Pow b pos) (kO (uI AN fun i j=>.int (i ^ j.toNat)) ta tb):=uA (fun _ _=>Oj) p5 ha hb
def qN (o:Bool):dR:=fun x y M Q=>match x,y with
 | .int i,.int j=>Q (.int (i + j)) M
 | .str i,.str j=>i.length + j.length<=sizeLine/\Q (.str (i++j)) M
 | .tup us,.tup ws=>us.length + ws.length<=sizeLine/\Q (.tup (us++ws)) M
 | x,y=>nB o x y M Q
def Lf (K:PySem.W.Frag):R2:=fun x y H Q=>uS (fun i j=>.int (i + j)) x y H Q\/((∃ i j,x=.str i/\y=.str j/\i.length + j.length<=sizeLine/\Q (.str (i++j)) H)\/(CF K x y H Q\/Gr K x y H Q))
theorem Md {K:PySem.W.Frag} {o:Bool}:dS K (Lf K) (qN o):=fun x y u w H M Q' rm ru rw h Q c=>by
 unfold qN at h
 split at h
 ·exact .inl (BY x y _ _ H M Q' rm ru rw h Q c)
 ·exact .inr (.inl (Jc x y _ _ H M Q' rm ru rw h Q c))
 ·exact .inr (.inr (.inl (JP x y _ _ H M Q' rm ru rw h Q c)))
 ·exact .inr (.inr (.inr (JE x y _ _ H M Q' rm ru rw h Q c)))
theorem cX (own:Bool:=false) (ha:bB D a ta) (hb:bB D b tb):bB D (.BinOp a .Add b pos) (kO (qN own) ta tb) :=
 uA (r:=Lf D.K) (fun X h=>by have:=PJ.or (Fm.or ((Kg (X:=X)).or (My (X:=X))));rw [h.K] at this;exact this) Md ha hb
theorem OT {op:CmpOp} {r:R2} {r':dR} (ho:∀ X,kQ D X->dD X (compareOp op) r) (hr:dS D.K r r') (ha:bB D a ta) (hb:bB D b tb) (hm:behindInMarks op b=false):bB D (.Compare a [op] [b] pos) (kO r' ta tb):=by
 obtain ⟨x,p,s⟩:=ha;obtain ⟨y,q,r⟩:=hb
 exact ⟨_,fun X h=>Nq (ho X h) (p X h) (q X h) hm,vG hr s r⟩
theorem Oe {op:CmpOp} {r:R2} {r':dR} (ho:∀ X,kQ D X->dD X (compareOp op) r) (hr:dS D.K r r') (ha:bB D a ta) (hb:bB D b tb) (hm:behindInMarks op b=false):pU D (.Compare a [op] [b] pos) (lR (kO r' ta tb)):=by
 obtain ⟨x,p,s⟩:=ha;obtain ⟨y,q,r⟩:=hb
 exact ⟨_,fun X h=>Nb (ho X h) (p X h) (q X h) hm,CT (vG hr s r)⟩
abbrev Ca:dR:=oO fun i j=>.bl (decide (i < j))
abbrev Bc:dR:=oO fun i j=>.bl (decide (i<=j))
abbrev Ba:dR:=oO fun i j=>.bl (decide (j < i))
abbrev A5:dR:=oO fun i j=>.bl (decide (j<=i))
structure lP (D:Dat) (op:CmpOp) (r':dR):Prop where
 ex:∃ r:R2,(∀ X,kQ D X->dD X (compareOp op) r)/\dS D.K r r'
theorem Gu:lP D .LtE Bc:=⟨⟨_,fun _ _=>Qk,pZ⟩⟩
theorem AD:lP D .Gt Ba:=⟨⟨_,fun _ _=>Qj,pZ⟩⟩
theorem Rc:lP D .GtE A5:=⟨⟨_,fun _ _=>Qd,pZ⟩⟩
theorem BC:lP D .Is qJ:=⟨⟨_,fun _ _=>OU,Mo⟩⟩
theorem rK:lP D .IsNot m7:=⟨⟨_,fun _ _=>Mr,Ke⟩⟩
def w6 (neg:Bool):dR:=fun x y M Q=>match x,y with
 | .str i,.str j=>Q (.bl (if neg then !(!(Builtin.Str.occurrences j i 0 j.length 1).isEmpty) else !(Builtin.Str.occurrences j i 0 j.length 1).isEmpty)) M
 | _,_=>False
theorem Ai {op:CmpOp} {r':dR} (k:lP D op r') (ha:bB D a ta) (hb:bB D b tb) (hm:behindInMarks op b=false:=by first | exact G8 _ | with_unfolding_all rfl):bB D (.Compare a [op] [b] pos) (kO r' ta tb) :=
 let ⟨_,h1,h2⟩:=k.ex;OT h1 h2 ha hb hm
theorem bU {op:CmpOp} {r':dR} (k:lP D op r') (ha:bB D a ta) (hb:bB D b tb) (hm:behindInMarks op b=false:=by first | exact G8 _ | with_unfolding_all rfl):pU D (.Compare a [op] [b] pos) (lR (kO r' ta tb)) :=
 let ⟨_,h1,h2⟩:=k.ex;Oe h1 h2 ha hb hm
theorem QF {op op':CmpOp} {r r':dR} (k:lP D op r) (k':lP D op' r') (ha:bB D a ta) (hb:bB D b tb) (hc:bB D c tc) (hm:lastMarks [op,op'] [b,c]=false:=by with_unfolding_all rfl) :
  bB D (.Compare a [op,op'] [b,c] pos) (k5 r r' ta tb tc):=by
 obtain ⟨x,p,s⟩:=ha;obtain ⟨y,q,r⟩:=hb;obtain ⟨z,u,v⟩:=hc
 obtain ⟨_,h1,h2⟩:=k.ex
 obtain ⟨_,h3,h4⟩:=k'.ex
 exact ⟨_,fun X h=>J0 (h1 X h) (h3 X h) (p X h) (q X h) (u X h) hm,Bj h2 h4 s r v⟩
theorem Qs {op op':CmpOp} {r r':dR} (k:lP D op r) (k':lP D op' r') (ha:bB D a ta) (hb:bB D b tb) (hc:bB D c tc) (hm:lastMarks [op,op'] [b,c]=false:=by with_unfolding_all rfl) :
  pU D (.Compare a [op,op'] [b,c] pos) (lR (k5 r r' ta tb tc)):=by
 obtain ⟨x,p,s⟩:=ha;obtain ⟨y,q,r⟩:=hb;obtain ⟨z,u,v⟩:=hc
 obtain ⟨_,h1,h2⟩:=k.ex
 obtain ⟨_,h3,h4⟩:=k'.ex
 exact ⟨_,fun X h=>K6 (h1 X h) (h3 X h) (p X h) (q X h) (u X h) hm,CT (Bj h2 h4 s r v)⟩
theorem k6 (ha:bB D a ta) (he:∀ env whole,isTrue a env whole=(do let v <- whole;standAt a.pos;holding [v] (truthy v)):=by intro _ _;rfl):pU D a (tG ta):=by
 obtain ⟨x,p,s⟩:=ha
 refine ⟨_,fun X h=>?_,LU s⟩
 have:=Kv (p X h) (he X.env)
 rw [h.K] at this
 exact this
theorem kS.pt {t:UT} (h:kS D a t):pU D a t:=let ⟨_,p,s⟩:=h;⟨_,fun X h=>(p X h).pt,s⟩
variable {rest:List Expr} {tA tB':UT}
theorem oH (ha:pU D a tA):kS D (.BoolOp .And [a] pos) tA:=let ⟨_,p,s⟩:=ha;⟨_,fun X h=>MD (p X h),s⟩
theorem nD (ha:pU D a tA):kS D (.BoolOp .Or [a] pos) tA:=let ⟨_,p,s⟩:=ha;⟨_,fun X h=>N4 (p X h),s⟩
theorem rO (ha:pU D a tA) (hb:kS D (.BoolOp .And (b :: rest) pos) tB'):kS D (.BoolOp .And (a :: b :: rest) pos) (tE tA tB'):=let ⟨_,p,s⟩:=ha;let ⟨_,q,r⟩:=hb;⟨_,fun X h=>NQ (p X h) (q X h),Mf s r⟩
theorem l0 (ha:pU D a tA) (hb:kS D (.BoolOp .Or (b :: rest) pos) tB'):kS D (.BoolOp .Or (a :: b :: rest) pos) (yK tA tB'):=let ⟨_,p,s⟩:=ha;let ⟨_,q,r⟩:=hb;⟨_,fun X h=>Qp (p X h) (q X h),Oq s r⟩
theorem pJ (ha:pU D a tA):pU D (.UnaryOp .Not a pos) (tI tA):=let ⟨_,p,s⟩:=ha;⟨_,fun X h=>Pa (p X h),Mb s⟩
theorem BP {op} (ha:bB D a ta):bB D (.BoolOp op [a] pos) ta:=let ⟨_,p,s⟩:=ha;⟨_,fun X h=>OR (p X h),s⟩
theorem GV (ha:bB D a ta) (hb:bB D (.BoolOp .And (b :: rest) pos) tb):bB D (.BoolOp .And (a :: b :: rest) pos) (nZ ta tb):=let ⟨_,p,s⟩:=ha;let ⟨_,q,r⟩:=hb;⟨_,fun X h=>NN (p X h) (q X h),JG s r⟩
theorem QD (ha:bB D a ta) (hb:bB D (.BoolOp .Or (b :: rest) pos) tb):bB D (.BoolOp .Or (a :: b :: rest) pos) (sM ta tb):=let ⟨_,p,s⟩:=ha;let ⟨_,q,r⟩:=hb;⟨_,fun X h=>QL (p X h) (q X h),M8 s r⟩
theorem Pj (ha:bB D a ta):bB D (.UnaryOp .Not a pos) (oF ta):=let ⟨_,p,s⟩:=ha;⟨_,fun X h=>NL (p X h),KJ s⟩
theorem LD (hc:pU D c tA) (ha:bB D a ta) (hb:bB D b tb):bB D (.IfExp c a b pos) (zA tA ta tb):=let ⟨_,p,s⟩:=ha;let ⟨_,q,r⟩:=hb;let ⟨_,u,v⟩:=hc;⟨_,fun X h=>IP (u X h) (p X h) (q X h),Pe v s r⟩
variable {es:List Expr} {tas:UA}
theorem aB:lZ D [] tD:=⟨_,fun X h=>PX,ML⟩
theorem aA (ha:bB D e te) (hr:lZ D es tas) (hs:∀ env,starEach (e :: es) env=(false,eval e env) :: starEach es env:=by intro _;rfl):lZ D (e :: es) (oB te tas):=let ⟨_,p,s⟩:=ha;let ⟨_,q,r⟩:=hr;⟨_,fun X h=>Nw (p X h) (q X h) (hs _),Ky s r⟩
theorem bG {x1} (h:lZ D es tas):bB D (.Tuple es x1 pos) (sI tas):=let ⟨_,p,s⟩:=h;⟨_,fun X h=>P0 (p X h),NG s⟩
theorem cR (own:Bool:=false) (h:lZ D es tas):bB D (.List es pos) (tJ own tas):=let ⟨_,p,s⟩:=h;⟨_,fun X h=>Pu (p X h),MG s⟩
theorem aQ (ha:bB D a ta) (hb:bB D b tb) (hs:Ep b:=by intro _ _;rfl):bB D (.Subscript a b pos) (kO w4 ta tb):=by
 obtain ⟨x,p,s⟩:=ha;obtain ⟨y,q,r⟩:=hb
 refine ⟨_,fun X h=>?_,vG OF s r⟩
 have:=Qc (pos:=pos) PY (p X h) (q X h) hs
 rw [h.K] at this
 exact this
theorem mP:Lc D none kM:=⟨_,fun X h=>Mt,F2⟩
theorem mN (h:bB D e te):Lc D (some e) (nU te):=let ⟨_,p,s⟩:=h;⟨_,fun X h=>MW (p X h),Ji s⟩
variable {st:Stmt} {sts body body2:List Stmt} {t u:US}
theorem bC:oR D [] bF:=⟨_,fun X h=>MX,KR⟩
theorem aD (h1:qF D st t) (h2:oR D sts u):oR D (st :: sts) (mS t u):=let ⟨_,p,s⟩:=h1;let ⟨_,q,r⟩:=h2;⟨_,fun X h=>KS (p X h) (q X h),NI s r⟩
theorem aG (h1:qF D st t):oR D [st] t:=let ⟨_,p,s⟩:=h1;⟨_,fun X h=>Nx (p X h),s⟩
theorem lQ (he:bB D e te) (hs:∀ env,swapsWith e none pos.line env=pure false:=by intro _;rfl):qF D (.Expr e pos) (hZ te):=let ⟨_,p,s⟩:=he;⟨_,fun X h=>L4 (p X h) (hs _),Ks s⟩
theorem aW (he:bB D e te):qF D (.Return (some e) pos) (bS te):=let ⟨_,p,s⟩:=he;⟨_,fun X h=>PB (p X h),Nr s⟩
theorem bR {c:Expr} {tc:UT} (hc:pU D c tc) (ha:oR D body t) (hb:oR D body2 u):qF D (.If c body body2 pos) (lX tc t u):=let ⟨_,p,s⟩:=ha;let ⟨_,q,r⟩:=hb;let ⟨_,x,y⟩:=hc;⟨_,fun X h=>QA (x X h) (p X h) (q X h),Ny y s r⟩
theorem IQ {c:Expr} {tc:UT} (hc:pU D c tc) (hb:oR D body t):qF D (.While c body [] pos) (B6 tc t):=by
 obtain ⟨_,p,s⟩:=hb;obtain ⟨_,x,y⟩:=hc
 exact ⟨_,fun X h=>KN (by rw [h.xe];exact PassesOwn.never) (x X h) (p X h),G9 y s⟩
variable {k:Nat} {g:UG} {gs:yO}
theorem aZ (i:Nat) {x:Str} (hN:D.N.Nodup) (hi:D.N[i]?=some x:=by rfl) (hx:Loc D.sc x:=by first | exact Or.inl rfl | exact Or.inr rfl) (hik:i < k:=by decide) (hf:D.fn=true\/D.sc.names.lookup x=some .local:=by first | exact .inl rfl | exact .inr rfl):EC D k (.Name x pos) (hName i) :=
 ⟨_,fun X h=>Ez (i:=i) (by rw [h.N];exact hN) (by rw [h.N];exact hi) (by rw [h.sc];exact hx) (by rcases hf with z | z;exact .inl (h.fn z x);exact .inr (by rw [h.sc];exact z)),pW i,EB hik,O6⟩
theorem fK:FT D k [] iC:=⟨_,fun X h=>Nh,Jn,PQ,P7⟩
theorem bM (h1:EC D k e g) (h2:FT D k es gs) (hs:∀ env,(assignEach (e :: es) env).map (·.2)=assign e env :: (assignEach es env).map (·.2):=by intro _;rfl):FT D k (e :: es) (eT g gs) :=
 let ⟨_,p,s,x,y⟩:=h1;let ⟨_,q,r,z,w⟩:=h2;⟨_,fun X h=>Kl (p X h) (q X h) (hs _),Ia s r,L0 x z w y,OD y w⟩
theorem iH {kk:Nat} {n:Nat} (h:FT D k es gs) (hn:∀ env,(assignEach es env).length=n:=by intro _;rfl) (hst:∀ env,(assignEach es env).findIdx? (·.1)=none:=by intro _;rfl):EC D k (.Tuple es kk pos) (gB n gs):=by
 obtain ⟨_,p,s,x,y⟩:=h
 refine ⟨_,fun X h=>?_,IU s,OI x,Qf y⟩
 have:=N8 (pos:=pos) (k:=kk) h.calm (p X h) (hn _) (hst _)
 rw [h.K] at this
 exact this
theorem aR (i:Nat) {x:Str} {pos':Pos} (hN:D.N.Nodup) (he:bB D e te) (hi:D.N[i]?=some x:=by rfl) (hx:Loc D.sc x:=by first | exact Or.inl rfl | exact Or.inr rfl) (hs:∀ env,swapsWith e (some (.Name x pos')) pos.line env=pure false:=by intro _;rfl)
  (hf:D.fn=true\/D.sc.names.lookup x=some .local:=by first | exact .inl rfl | exact .inr rfl):qF D (.Assign [.Name x pos'] e pos) (bA te (hName i)):=by
 obtain ⟨_,p,s⟩:=he
 exact ⟨_,fun X h=>Pc (i:=i) (by rw [h.N];exact hN) (by rw [h.N];exact hi) (by rw [h.sc];exact hx) (p X h) (hs _) (by rcases hf with z | z;exact .inl (h.fn z x);exact .inr (by rw [h.sc];exact z)),ET s (pW i)⟩
variable {tg iter:Expr} {wi:UI}
theorem eX (h:bB D e te):rW D tg e (n5 te):=by
 obtain ⟨_,p,s⟩:=h
 refine ⟨_,fun X h=>?_,Jb s⟩
 have:=N1 (tg:=tg) (p X h)
 rw [h.K] at this
 exact this
theorem As {p:Pos} {ta:UA} (hm:D.mg "range"=none) (ha:lZ D [a] ta) (hg:D.sc.names.lookup ("range":Str)=some .globalImplicit:=by rfl) (hs:∀ env,starEach [a] env=[(false,eval a env)]:=by intro _;rfl):rW D tg (.Call (.Name "range" p) [a] [] pos) (n6 ta):=by
 obtain ⟨_,q,s⟩:=ha
 exact ⟨_,fun X h=>Hn (by show X.env.scope.names.lookup _=_;rw [h.sc];exact hg) (by rw [h.mg];exact hm) (q X h) (hs _),J4 s⟩
theorem DX {p:Pos} {ta:UA} (hm:D.mg "range"=none) (ha:lZ D [a,b] ta) (hg:D.sc.names.lookup ("range":Str)=some .globalImplicit:=by rfl) (hs:∀ env,starEach [a,b] env=[(false,eval a env),(false,eval b env)]:=by intro _;rfl) (hs2:∀ env,starEach [b] env=[(false,eval b env)]:=by intro _;rfl):rW D tg (.Call (.Name "range" p) [a,b] [] pos) (n8 ta):=by
 obtain ⟨_,q,s⟩:=ha
 exact ⟨_,fun X h=>Ik (by show X.env.scope.names.lookup _=_;rw [h.sc];exact hg) (by rw [h.mg];exact hm) (q X h) (hs _) (hs2 _),Jy s⟩
theorem eB (hi:rW D tg iter wi) (hg:EC D k tg g) (hb:oR D body t) (hs:∀ env x,foldedSetIterable iter env x=pure x:=by intro _ _;rfl):qF D (.For tg iter body [] pos) (Gb wi g t):=by
 obtain ⟨_,p,s⟩:=hi;obtain ⟨_,q,r,_⟩:=hg;obtain ⟨_,x,y⟩:=hb
 exact ⟨_,fun X h=>NZ (by rw [h.xe];exact PassesOwn.never) h.calm (p X h) (q X h) (x X h) (hs _),Mp s r y⟩
end
end U2
namespace U2
open PySem PySem.Spec PyProof.Rows L2
structure Callee (P:Program) (w:World) (K:PySem.W.Frag) (mg:Str->Option Value) (base:Heap) (j:Nat) (x:Str) (sp:dC) (dus:List U):Prop where
 ex:∃ f fd ps dvs ds,jN P w K mg base rH j f fd ps (iX K sp)/\mg x=some (.ref f)/\PySem.W.keepIn K (.ref f)=true/\Binds K fd ps ds/\Vals dvs ds/\∀ H M,aK K H M dus dvs
abbrev Rn (D:Dat):=Callee D.prog D.w D.K D.mg D.base
section
variable {D:Dat} {a b c e o:Expr} {ta tb tc te:UE} {pos p:Pos} {es:List Expr} {tas:UA} {x:Str}
theorem aM {sp:dC} {dus:List U} {j:Nat} (F:Rn D j x sp dus) (ha:lZ D (e :: es) tas) (hj:j<=D.k:=by first | exact Nat.le_refl _ | (dsimp only;omega) | omega | (dsimp only [b8];omega)) (hg:D.sc.names.lookup x=some .globalImplicit:=by rfl) (hdb:(x == ("__debug__":Str))=false:=by decide)
  (he:∀ env,starEach (e :: es) env=(false,eval e env) :: starEach es env:=by intro _;rfl) (hpl:∀ env,(backTo pos (starEach es env)).any (·.1)=false:=by intro _;rfl):bB D (.Call (.Name x p) (e :: es) [] pos) (oA sp dus tas):=by
 obtain ⟨f,fd,ps,dvs,ds,F,hm,kp,hb,hd,hr⟩:=F.ex
 obtain ⟨_,q,s⟩:=ha
 refine ⟨E2 (iX D.K sp) dvs E0 _,fun X h=>?_,KG hr s⟩
 have F':jN X.prog X.w X.K X.mg X.base rH j f fd ps (iX D.K sp):=by rw [h.prog,h.w,h.K,h.mg,h.base];exact F
 exact Ms F' (h.room.mono hj) (by show X.env.scope.names.lookup x=_;rw [h.sc];exact hg) (by rw [h.mg];exact hm) (by rw [h.K];exact kp) (by rw [h.K];exact hb) hd Lk (q X h) hdb (he _) (hpl _)
structure u3 (D:Dat) (f:Value) (r':List U->aF->UK->Prop):Prop where
 ex:∃ r,(∀ X,kQ D X->lF X f r)/\vK D.K r r'
theorem fM {id:String} {r':List U->aF->UK->Prop} (k:u3 D (.builtin id) r') (hm:D.mg x=none) (ha:lZ D (e :: es) tas) (hv:bootBuiltins x=some (.builtin id):=by kernel_rfl) (hg:D.sc.names.lookup x=some .globalImplicit:=by rfl) (hn:x≠"__name__":=by decide) (hdb:(x == ("__debug__":Str))=false:=by decide)
  (he:∀ env,starEach (e :: es) env=(false,eval e env) :: starEach es env:=by intro _;rfl) (hpl:∀ env,(backTo pos (starEach es env)).any (·.1)=false:=by intro _;rfl):bB D (.Call (.Name x p) (e :: es) [] pos) (wN r' tas):=by
 obtain ⟨r,h1,h2⟩:=k.ex
 obtain ⟨_,q,s⟩:=ha
 exact ⟨_,fun X h=>JS (h1 X h) (by show X.env.scope.names.lookup x=_;rw [h.sc];exact hg) (by rw [h.mg];exact hm) hv (q X h) hn hdb (he _) (hpl _),G3 h2 s⟩
theorem xM {T:String} {r':List U->aF->UK->Prop} (k:u3 D (.type T) r') (hm:D.mg x=none) (ha:lZ D (e :: es) tas) (hv:bootBuiltins x=some (.type T):=by kernel_rfl) (hg:D.sc.names.lookup x=some .globalImplicit:=by rfl) (hn:x≠"__name__":=by decide) (hdb:(x == ("__debug__":Str))=false:=by decide)
  (he:∀ env,starEach (e :: es) env=(false,eval e env) :: starEach es env:=by intro _;rfl) (hpl:∀ env,(backTo pos (starEach es env)).any (·.1)=false:=by intro _;rfl):bB D (.Call (.Name x p) (e :: es) [] pos) (wN r' tas):=by
 obtain ⟨r,h1,h2⟩:=k.ex
 obtain ⟨_,q,s⟩:=ha
 exact ⟨_,fun X h=>GS (h1 X h) (by show X.env.scope.names.lookup x=_;rw [h.sc];exact hg) (by rw [h.mg];exact hm) hv (q X h) hn hdb (he _) (hpl _),G3 h2 s⟩
theorem i9:u3 D (.builtin "len") qK:=⟨⟨_,fun X h=>by have:=JN (X:=X);rw [h.K] at this;exact this,Mc⟩⟩
theorem Hr (own:Bool:=false):u3 D (.type "list") (mZ own):=⟨⟨_,fun X h=>by have:=BX (X:=X);rw [h.K] at this;exact this,JM⟩⟩
theorem Aq:u3 D (.type "tuple") kX:=⟨⟨_,fun X h=>by have:=Bx (X:=X);rw [h.K] at this;exact this,GW⟩⟩
def NU (K:PySem.W.Frag):List V->Hp->VK->Prop:=fun xs H Q=>∃ x T t b,xs=[x,.ty T]/\(mC K H x (.type t)\/(t="tuple"/\∃ p vs ob,x=.ref p/\H p=some (.frz ob (.tup vs)))\/(t="tuple"/\∃ p vs,x=.ref p/\KT K p vs)\/(t="list"/\∃ p vs,x=.ref p/\KL K p vs)\/(t="dict"/\∃ p ob u,x=.ref p/\H p=some (.frz ob u)/\tX u=true))/\PySem.W.kitOne K (.type t) (.type T)=some b/\Q (.bl b) H
theorem JL {X:Cx}:lF X (.builtin "isinstance") (NU X.K):=by
 intro pins s σ H xs us Q I r h
 obtain ⟨x,T,t,b,rfl,ty,e,q⟩:=h
 obtain ⟨u,w',rfl,ru,rw'⟩:=vals2 r
 cases rw'
 rcases ty with ty | ⟨rfl,p,vs,ob,rfl,m⟩ | ⟨rfl,p,vs,rfl,o,its,n,hk,hc,hd,_,_⟩ | ⟨rfl,p,vs,rfl,o,its,n,hk,hc,_,hd,_,_⟩ | ⟨rfl,p,ob,du,rfl,m,dk⟩
 ·exact GG I ru ty e fun tk=>⟨.bl b,H,I.tok tk,rfl,q⟩
 ·cases ru
  obtain ⟨_,_,_,_,o,h1,h2,_⟩:=(show cK X.prog X.w H s.heap p (.frz ob (.tup vs)) from I.hok p _ m)
  exact PySem.W.kia_one PySem.W.kitx_tuple I.kIn ⟨o,h1,h2⟩ e (fun z=>nomatch z) fun tk=>⟨.bl b,H,I.tok tk,rfl,q⟩
 ·cases ru
  exact PySem.W.kia_one PySem.W.kitx_tuple I.kIn ⟨o,I.kIn _ _ hk,hc⟩ e (fun z=>nomatch z) fun tk=>⟨.bl b,H,I.tok tk,rfl,q⟩
 ·cases ru
  exact PySem.W.kia_one PySem.W.kitx_list I.kIn ⟨o,I.kIn _ _ hk,hc⟩ e (fun z=>nomatch z) fun tk=>⟨.bl b,H,I.tok tk,rfl,q⟩
 ·cases ru
  obtain ⟨hg,ho⟩:=(show cK X.prog X.w H s.heap p (.frz ob du) from I.hok p _ m)
  have hx:∃ o,s.heap.get? p=some o/\o.cls=.type "dict":=by
   cases du with
   | dK kvs=>obtain ⟨_,_,_,_,o,_,_,h1,h2,_⟩:=ho;exact ⟨o,h1,h2.1⟩
   | dT kvs=>obtain ⟨_,_,_,_,o,_,_,h1,h2,_⟩:=ho;exact ⟨o,h1,h2.1⟩
   | _=>cases dk
  exact PySem.W.kia_one PySem.W.kitx_dict I.kIn hx e (fun z=>nomatch z) fun tk=>⟨.bl b,H,I.tok tk,rfl,q⟩
def yY:List (String × String × Bool):=[("NoneType","bool",false),("NoneType","int",false),("NoneType","str",false),("NoneType","tuple",false),("NoneType","list",false),("NoneType","dict",false),("bool","bool",true),("bool","int",true),("bool","str",false),("bool","tuple",false),("bool","list",false),("bool","dict",false),("int","bool",false),("int","int",true),("int","str",false),("int","tuple",false),("int","list",false),("int","dict",false),("str","bool",false),("str","int",false),("str","str",true),("str","tuple",false),("str","list",false),("str","dict",false),("tuple","bool",false),("tuple","int",false),("tuple","str",false),("tuple","tuple",true),("tuple","list",false),("tuple","dict",false),("list","bool",false),("list","int",false),("list","str",false),("list","tuple",false),("list","list",true),("list","dict",false),("dict","bool",false),("dict","int",false),("dict","str",false),("dict","tuple",false),("dict","list",false),("dict","dict",true)]
theorem G7 {K:PySem.W.Frag}:∀ r∈yY,PySem.W.kitOne K (.type r.1) (.type r.2.1)=some r.2.2:=by
 intro r hr
 simp only [yY,List.mem_cons,List.not_mem_nil,or_false] at hr
 rcases hr with rfl | rfl | rfl | rfl | rfl | rfl | rfl | rfl | rfl | rfl | rfl | rfl | rfl | rfl | rfl | rfl | rfl | rfl | rfl | rfl | rfl | rfl | rfl | rfl | rfl | rfl | rfl | rfl | rfl | rfl | rfl | rfl | rfl | rfl | rfl | rfl | rfl | rfl | rfl | rfl | rfl | rfl <;> first | rfl | kernel_rfl
def bI (t T:String):Option Bool:=(yY.find? fun r=>r.1 == t && r.2.1 == T).map (·.2.2)
theorem HN {K:PySem.W.Frag} {t T:String} {b:Bool} (h:bI t T=some b):PySem.W.kitOne K (.type t) (.type T)=some b:=by
 unfold bI at h
 cases e:yY.find? fun r=>r.1 == t && r.2.1 == T with
 | none=>rw [e] at h;cases h
 | some r =>
  rw [e] at h
  cases h
  have h1:=List.find?_some e
  have h2:=G7 (K:=K) r (List.mem_of_find?_eq_some e)
  simp only [Bool.and_eq_true,beq_iff_eq] at h1
  rw [h1.1,h1.2] at h2
  exact h2
def m3:List U->aF->UK->Prop:=fun us M Q=>match us with
 | [x,.ty T]=>match t6 M x with
  | some t=>match bI t T with
   | some b=>Q (.bl b) M
   | none=>False
  | none=>False
 | _=>False
theorem Nk {K:PySem.W.Frag}:vK K (NU K) m3:=fun xs us H M Q' rm rus h Q c=>by
 unfold m3 at h
 split at h
 ·rename_i x T
  split at h
  ·rename_i t e
   split at h
   ·rename_i b e2
    obtain ⟨v,z,rfl,a1,a2⟩:=rus.two
    cases a2.ty
    refine ⟨v,T,t,b,rfl,?_,HN e2,c.here rm dI h⟩
    cases x with
    | non=>cases a1.non;cases e;exact .inl .non
    | bl y=>cases a1.bl;cases e;exact .inl (.bl y)
    | int y=>cases a1.int;cases e;exact .inl (.int y)
    | str y=>cases a1.str;cases e;exact .inl (.str y)
    | ty y=>cases e
    | tup y =>
     cases e
     simp only [aJ] at a1
     obtain ⟨a,vs,rfl,m,r⟩:=a1
     exact .inl (.tup m.2)
    | lst y =>
     cases e
     simp only [aJ] at a1
     obtain ⟨a,vs,rfl,m,r⟩:=a1
     rcases m with ⟨_,m | ⟨ob,m⟩⟩ | k
     ·exact .inl (.lst m)
     ·exact .inl (.frz m)
     ·exact .inr (.inr (.inr (.inl ⟨rfl,a,vs,rfl,k⟩)))
    | dic ks tk y =>
     cases e
     simp only [aJ] at a1
     obtain ⟨a,vs,rfl,m,r,_⟩:=a1
     cases tk with
     | true =>
      obtain ⟨ws,h1 | ⟨ob,h1⟩,_⟩:=r
      ·exact .inl (.dT h1)
      ·exact .inr (.inr (.inr (.inr ⟨rfl,a,ob,_,rfl,h1,rfl⟩)))
     | false =>
      obtain ⟨ws,h1 | ⟨ob,h1⟩,_⟩:=r
      ·exact .inl (.dK h1)
      ·exact .inr (.inr (.inr (.inr ⟨rfl,a,ob,_,rfl,h1,rfl⟩)))
    | ref y =>
     cases a1.ref
     simp only [t6] at e
     split at e
     ·rename_i ws e3
      cases e
      obtain ⟨vs,h1,_⟩:=rm y _ e3
      exact .inl (.lst h1)
     ·rename_i ws e4
      cases e
      obtain ⟨vs,h1,_⟩:=rm y _ e4;exact .inl (.dK h1)
     ·rename_i ws e4
      cases e
      obtain ⟨vs,h1,_⟩:=rm y _ e4;exact .inl (.dT h1)
     ·cases e
   ·exact h.elim
  ·exact h.elim
 ·exact h.elim
theorem yR:u3 D (.builtin "isinstance") m3:=⟨⟨_,fun X h=>by have:=JL (X:=X);rw [h.K] at this;exact this,Nk⟩⟩
def pQ:List U->Option (List Bool)
 | []=>some []
 | .bl b :: r=>(pQ r).map (b :: ·)
 | _=>none
def t5:List U->aF->UK->Prop:=fun us M Q=>match us with
 | [x]=>match view M x with
  | .lst ws=>match pQ ws with
   | some bs=>Q (.bl (bs.all fun b=>b)) M
   | none=>False
  | _=>False
 | _=>False
theorem BN {K:PySem.W.Frag} {H:Hp} {M:aF}:∀ {us:List U} {vs:List V} {bs:List Bool},aK K H M us vs->pQ us=some bs->vs=bs.map V.bl
 | [],_,_,r,h=>by cases h;exact r.inv_nil
 | u :: us,_,bs,r,h=>by
  obtain ⟨v,vs',rfl,a,b⟩:=r.inv_cons
  cases u with
  | bl y =>
   simp only [pQ] at h
   cases e:pQ us with
   | none=>rw [e] at h;cases h
   | some cs =>
    rw [e] at h
    cases h
    rw [BN b e,a.bl];rfl
  | _=>cases h
theorem Fz:u3 D (.builtin "all") t5:=⟨⟨_,fun X h=>by have:=Gx (X:=X) h.calm;rw [h.K] at this;exact this,fun xs us H M Q' rm rus h Q c=>by
 unfold t5 at h
 split at h
 ·rename_i x
  obtain ⟨v,rfl,a1⟩:=rus.one
  split at h
  ·rename_i ws e
   split at h
   ·rename_i bs e2
    obtain ⟨b,zvs,rfl,s2,r2⟩:=dZ rm a1 e
    rw [BN r2 e2] at s2
    exact ⟨b,bs,rfl,s2,c.here rm dI h⟩
   ·exact h.elim
  ·exact h.elim
 ·exact h.elim⟩⟩
theorem p8 {apos:Pos} (ho:bB D o ta) (ha:lZ D [e] tas) (hbase:∀ env,attributeBase o "append" env (eval o env)=eval o env:=by intro _;rfl)
  (hfew:∀ env,((backTo pos (starEach [e] env)).all (fun x=>!x.1) && (backToKw pos (keywordEach [] env)).all (fun x=>x.1.isSome) && decide ([e].length + ([]:List Keyword).length + (if ([]:List Keyword).isEmpty then 0 else 1) < 30))=true:=by intro _;rfl)
  (hline:(apos.endLine == pos.line)=true:=by rfl) (hs:∀ env,starEach [e] env=[(false,eval e env)]:=by intro _;rfl):bB D (.Call (.Attribute o "append" apos) [e] [] pos) (wQ jG ta tas):=by
 obtain ⟨_,p,s⟩:=ho;obtain ⟨_,q,r⟩:=ha
 refine ⟨_,fun X h=>?_,GH Fn s r⟩
 have:=K8 (cpos:=pos) (apos:=apos) PySem.F.plainAttrs_list PySem.F.slot_list_append PySem.F.type_list_append u9 (p X h) (q X h) (hbase _) (hfew _) hline (hs _) (by rfl)
 rw [h.K] at this
 exact this
def cG (scope sc:Scope):Scope :=
 { scope with names:=scope.names.map fun (n,k)=>if (k == .free && sc.kind == .function && sc.names.lookup n == some .cell) then (n,.cell) else (n,k) }
def b8 (D:Dat) (N:List Str) (scope:Scope):Dat:={ D with N:=N,sc:=cG scope D.sc,fn:=false,cod:=.none }
theorem kQ.comp {X:Cx} (h:kQ D X) (N:List Str) (scope:Scope) (cl:List (Str × Addr)) (C:Addr) (s:Shared) (H:Hp) (fp:List Addr):kQ (b8 D N scope) (eA X N scope cl C s H fp) :=
 ⟨h.prog,h.w,h.K,h.mg,h.base,rfl,by show cG scope X.env.scope=cG scope D.sc;rw [h.sc],h.room,h.calm,rfl,(fun z=>by cases z),(fun z=>absurd rfl z)⟩
theorem jH:FD D [] (fun _ M Q=>Q true M):=⟨Jw,fun X h=>DS,fun σ τ H M Q' rs rm q Q c=>c true M H (aS.refl _ _) rm q⟩
theorem NF {t:UT} (h:pU D c t):FD D [c] t:=let ⟨_,p,s⟩:=h;⟨_,fun X h=>MH (p X h),s⟩
theorem mX (own:Bool) (N:List Str) (k:Nat) (ix:List Nat) {scope:Scope} {tg iter elt:Expr} {ifs:List Expr} {wi:UI} {g:UG} {tcs:UT} (hi:rW D tg iter wi) (hg:EC (b8 D N scope) k tg g) (hif:FD (b8 D N scope) ifs tcs) (he:bB (b8 D N scope) elt te)
  (hk:scope.kind=.function:=by rfl) (hcell:∀ y∈scope.names,y.2≠.cell:=by first | decide +kernel | (dsimp only;decide +kernel) | (dsimp only [b8,cG];decide +kernel)) (hnames:∀ y∈scope.names,y.2=.local->scope.names.lookup y.1=some .local:=by first | decide +kernel | (dsimp only;decide +kernel) | (dsimp only [b8,cG];decide +kernel))
  (hfree:∀ y∈scope.names,y.2=.free->D.sc.names.lookup y.1=some .cell\/D.sc.names.lookup y.1=some .free:=by first | decide +kernel | (dsimp only;decide +kernel) | (dsimp only [b8,cG];decide +kernel)) (hone:∀ y∈scope.names,y.2=.free->scope.names.lookup y.1=some .free:=by first | decide +kernel | (dsimp only;decide +kernel) | (dsimp only [b8,cG];decide +kernel))
  (hN:ix.map (fun i=>D.N[i]?)=(N.drop k).map some:=by rfl) (hcap:∀ x∈N.drop k,scope.names.lookup x=some .free:=by first | decide +kernel | (dsimp only;decide +kernel) | (dsimp only [b8,cG];decide +kernel)) (hlen:N.length=k + ix.length:=by rfl)
  (hs:∀ env x,foldedSetIterable iter env x=pure x:=by intro _ _;rfl):bB D (.ListComp elt [⟨tg,iter,ifs,0⟩] scope pos) (vR own k ix wi g tcs te):=by
 obtain ⟨_,p1,s1⟩:=hi;obtain ⟨_,p2,s2,gk,_⟩:=hg;obtain ⟨_,p3,s3⟩:=hif;obtain ⟨_,p4,s4⟩:=he
 have hN':∀ (j:Nat) x,N[k + j]?=some x->∃ i,ix[j]?=some i/\D.N[i]?=some x:=fun j x e=>by
  have e1:((N.drop k).map some)[j]?=some (some x):=by rw [List.getElem?_map,List.getElem?_drop,e];rfl
  rw [<- hN,List.getElem?_map] at e1
  cases q:ix[j]? with
  | none=>rw [q] at e1;cases e1
  | some i=>rw [q] at e1;exact ⟨i,rfl,Option.some.inj e1⟩
 have hcap':∀ (j:Nat) x,N[k + j]?=some x->scope.names.lookup x=some .free:=fun j x e=>hcap x (List.mem_of_getElem? (i:=j) (by rw [List.getElem?_drop];exact e))
 refine ⟨_,fun X h=>MM (N:=N) (k:=k) (ix:=ix) h.calm (p1 X h) gk hk hcell hnames (fun y hy e=>by show X.env.scope.names.lookup y.1=_\/X.env.scope.names.lookup y.1=_;rw [h.sc];exact hfree y hy e) hone (fun j x e=>by rw [h.N];exact hN' j x e) hcap' hlen
  (fun cl C s H fp=>p2 _ (h.comp N scope cl C s H fp)) (fun cl C s H fp=>p3 _ (h.comp N scope cl C s H fp)) (fun cl C s H fp=>p4 _ (h.comp N scope cl C s H fp)) (hs _),xE s1 s2 s3 s4⟩
theorem Jr {elt:Expr} {gens:List Comprehension} {scope:Scope} {pos py:Pos} {y:Str} {line:Nat} {env:Env} (h1:env.scope.kind=.function) (h2:env.scope.names.lookup y=some .local) (h3:(py.line == pos.line && !(scope.names.any fun (n,k)=>n == y && (k == .local || k == .cell)))=true) :
  swapsWith (.ListComp elt gens scope pos) (some (.Name y py)) line env=pure true:=by
 have e1:(env.blockKind == .function)=true:=by first | (unfold Env.blockKind;rw [h1];rfl) | (unfold Env.blockKind;simp [h1])
 have e2:(env.kindOf y == some .local)=true:=by unfold Env.kindOf;rw [h2];rfl
 show pure (env.blockKind == .function && env.kindOf y == some .local && py.line == pos.line && !(scope.names.any fun (n,k)=>n == y && (k == .local || k == .cell)))=pure true
 rw [e1,e2]
 simp only [Bool.and_eq_true] at h3
 rw [h3.1,h3.2]
 rfl
theorem vJ (i:Nat) {y:Str} {spos py:Pos} (hNd:D.N.Nodup) (own:Bool) (N:List Str) (k:Nat) (ix:List Nat) {scope:Scope} {tg iter elt:Expr} {ifs:List Expr} {wi:UI} {g:UG} {tcs:UT} (hi:rW D tg iter wi) (hg:EC (b8 D N scope) k tg g) (hif:FD (b8 D N scope) ifs tcs) (he:bB (b8 D N scope) elt te)
  (hk:scope.kind=.function:=by rfl) (hcell:∀ y∈scope.names,y.2≠.cell:=by first | decide +kernel | (dsimp only;decide +kernel) | (dsimp only [b8,cG];decide +kernel)) (hnames:∀ y∈scope.names,y.2=.local->scope.names.lookup y.1=some .local:=by first | decide +kernel | (dsimp only;decide +kernel) | (dsimp only [b8,cG];decide +kernel))
  (hfree:∀ y∈scope.names,y.2=.free->D.sc.names.lookup y.1=some .cell\/D.sc.names.lookup y.1=some .free:=by first | decide +kernel | (dsimp only;decide +kernel) | (dsimp only [b8,cG];decide +kernel)) (hone:∀ y∈scope.names,y.2=.free->scope.names.lookup y.1=some .free:=by first | decide +kernel | (dsimp only;decide +kernel) | (dsimp only [b8,cG];decide +kernel))
  (hN:ix.map (fun i=>D.N[i]?)=(N.drop k).map some:=by rfl) (hcap:∀ x∈N.drop k,scope.names.lookup x=some .free:=by first | decide +kernel | (dsimp only;decide +kernel) | (dsimp only [b8,cG];decide +kernel)) (hlen:N.length=k + ix.length:=by rfl)
  (hs:∀ env x,foldedSetIterable iter env x=pure x:=by intro _ _;rfl) (hl1:D.sc.kind=.function:=by rfl) (hl2:D.sc.names.lookup y=some .local:=by rfl) (hl3:(py.line == pos.line && !(scope.names.any fun (n,k)=>n == y && (k == .local || k == .cell)))=true:=by decide +kernel)
  (hiy:D.N[i]?=some y:=by rfl) (hy:Loc D.sc y:=by first | exact Or.inl rfl | exact Or.inr rfl) (hf:D.fn=true\/D.sc.names.lookup y=some .local:=by first | exact .inl rfl | exact .inr rfl):qF D (.Assign [.Name y py] (.ListComp elt [⟨tg,iter,ifs,0⟩] scope pos) spos) (bA (vR own k ix wi g tcs te) (hName i)):=by
 obtain ⟨_,p1,s1⟩:=hi;obtain ⟨_,p2,s2,gk,_⟩:=hg;obtain ⟨_,p3,s3⟩:=hif;obtain ⟨_,p4,s4⟩:=he
 have hN':∀ (j:Nat) x,N[k + j]?=some x->∃ i,ix[j]?=some i/\D.N[i]?=some x:=fun j x e=>by
  have e1:((N.drop k).map some)[j]?=some (some x):=by rw [List.getElem?_map,List.getElem?_drop,e];rfl
  rw [<- hN,List.getElem?_map] at e1
  cases q:ix[j]? with
  | none=>rw [q] at e1;cases e1
  | some i=>rw [q] at e1;exact ⟨i,rfl,Option.some.inj e1⟩
 have hcap':∀ (j:Nat) x,N[k + j]?=some x->scope.names.lookup x=some .free:=fun j x e=>hcap x (List.mem_of_getElem? (i:=j) (by rw [List.getElem?_drop];exact e))
 refine ⟨_,fun X h=>NC (i:=i) (N:=N) (k:=k) (ix:=ix) h.calm (p1 X h) gk hk hcell hnames (fun y hy e=>by show X.env.scope.names.lookup y.1=_\/X.env.scope.names.lookup y.1=_;rw [h.sc];exact hfree y hy e) hone (fun j x e=>by rw [h.N];exact hN' j x e) hcap' hlen
  (fun cl C s H fp=>p2 _ (h.comp N scope cl C s H fp)) (fun cl C s H fp=>p3 _ (h.comp N scope cl C s H fp)) (fun cl C s H fp=>p4 _ (h.comp N scope cl C s H fp)) (hs _) (Jr (by rw [h.sc];exact hl1) (by rw [h.sc];exact hl2) hl3) (by rw [h.N];exact hNd) (by rw [h.N];exact hiy) (by rw [h.sc];exact hy) (by rcases hf with z | z;exact .inl (h.fn z y);exact .inr (by rw [h.sc];exact z)),ET (xE s1 s2 s3 s4) (pW i)⟩
end
section
variable {P:Program} {w:World} {K:PySem.W.Frag} {mg:Str->Option Value} {base:Heap}
theorem AZ {H:Hp} {M:aF} {N:List Str} {us:List U} {vs:List V} (r:aK K H M us vs):eP K H M (L2.start N vs) (gT N us):=by
 have hl:=r.length
 refine ⟨by simp [L2.start,gT,hl],fun i u e=>?_⟩
 unfold gT at e
 unfold L2.start
 by_cases hi:i < us.length
 ·rw [List.getElem?_append_left (by simpa using hi),List.getElem?_map] at e
  cases q:us[i]? with
  | none=>rw [q] at e;cases e
  | some u' =>
   rw [q] at e
   cases e
   obtain ⟨v,h1,h2⟩:=r.get q
   exact ⟨v,by rw [List.getElem?_append_left (by rw [List.length_map];omega),List.getElem?_map,h1];rfl,h2⟩
 ·rw [List.getElem?_append_right (by simpa using hi),List.getElem?_replicate] at e
  split at e <;> cases e
theorem DZ {x:Str} {st:Stmt} {f:Addr} {fd:FuncData} {N ps:List Str} {k:Nat} {sp:dC} {t:US} (F:cZ K x x st f fd) (S:bH N ps (aV st))
  (len:∀ us M Q,sp us M Q->us.length=ps.length)
  (h:oR ⟨P,w,K,mg,base,N,aV st,k,true,.none,""⟩ (gK st) t)
  (q:∀ us M Q,sp us M Q->t { nx:=fun _ M'=>rJ Q .non M',rt:=rJ Q } (gT N us) M):jN P w K mg base rH (k + 1) f fd ps (iX K sp):=by
 obtain ⟨t0,h1,h2⟩:=h
 refine F.ok S (fun vs H Q E ⟨us,M,Q',_,r,hs,_⟩=>by rw [<- r.length];exact len us M Q' hs) (fun cdv A outer s H vs Q E hr ⟨us,M,Q',rm,r,hs,c⟩=>?_)
 refine ⟨t0,h1 _ ⟨rfl,rfl,rfl,rfl,rfl,rfl,rfl,hr,rfl,rfl,fun _ _=>rfl,fun h=>absurd rfl h⟩,?_⟩
 refine h2 _ (gT N us) H M _ (AZ r) rm (q us M Q' hs) _ ⟨fun σ τ H1 M1 s1 rm1 rs1 q1=>?_,fun u v H1 M1 s1 rm1 ru q1=>rJ.ok c s1 rm1 ru q1,fun _ _ _ _ _ _ _ z=>z.elim,fun _ _ _ _ _ _ _ z=>z.elim⟩
 exact rJ.ok c s1 rm1 mV q1
theorem G0 {x:Str} {st:Stmt} {f:Addr} {fd:FuncData} {N ps:List Str} {k:Nat} {sp:dC} {t:US} (F:cZ K x x st f fd) (hm:mg x=some (.ref f)) (S:bH N ps (aV st))
  (bind:∀ (kV doc pm:Value) (an:Option Addr) (cdv ct:Value) (us:List Value),us.length=ps.length->bindArgs (PySem.W.fnOf x x (kJ st) (gK st) (aV st) .none kV doc pm an cdv ct) ⟨us,[]⟩=pure (ps.zip us))
  (len:∀ us M Q,sp us M Q->us.length=ps.length)
  (h:oR ⟨P,w,K,mg,base,N,aV st,k,true,.none,""⟩ (gK st) t)
  (q:∀ us M Q,sp us M Q->t { nx:=fun _ M'=>rJ Q .non M',rt:=rJ Q } (gT N us) M):Callee P w K mg base (k + 1) x sp []:=by
 obtain ⟨t0,h1,h2⟩:=h
 refine ⟨f,fd,ps,[],[],F.ok S (fun vs H Q E ⟨us,M,Q',_,r,hs,_⟩=>by rw [<- r.length];exact len us M Q' hs) (fun cdv A outer s H vs Q E hr ⟨us,M,Q',rm,r,hs,c⟩=>?_),hm,F.kp,F.binds bind,.nil,fun H M=>.nil⟩
 refine ⟨t0,h1 _ ⟨rfl,rfl,rfl,rfl,rfl,rfl,rfl,hr,rfl,rfl,fun _ _=>rfl,fun h=>absurd rfl h⟩,?_⟩
 refine h2 _ (gT N us) H M _ (AZ r) rm (q us M Q' hs) _ ⟨fun σ τ H1 M1 s1 rm1 rs1 q1=>?_,fun u v H1 M1 s1 rm1 ru q1=>rJ.ok c s1 rm1 ru q1,fun _ _ _ _ _ _ _ z=>z.elim,fun _ _ _ _ _ _ _ z=>z.elim⟩
 exact rJ.ok c s1 rm1 mV q1
end
end U2
namespace U2
open PySem L2
theorem dQ:bI "NoneType" "bool"=some false:=by decide +kernel
theorem d7:bI "NoneType" "int"=some false:=by decide +kernel
theorem d8:bI "NoneType" "str"=some false:=by decide +kernel
theorem dE:bI "NoneType" "tuple"=some false:=by decide +kernel
theorem dO:bI "NoneType" "list"=some false:=by decide +kernel
theorem dP:bI "NoneType" "dict"=some false:=by decide +kernel
theorem fQ:bI "bool" "bool"=some true:=by decide +kernel
theorem gW:bI "bool" "int"=some true:=by decide +kernel
theorem gP:bI "bool" "str"=some false:=by decide +kernel
theorem eY:bI "bool" "tuple"=some false:=by decide +kernel
theorem fV:bI "bool" "list"=some false:=by decide +kernel
theorem fL:bI "bool" "dict"=some false:=by decide +kernel
theorem gM:bI "int" "bool"=some false:=by decide +kernel
theorem iI:bI "int" "int"=some true:=by decide +kernel
theorem iM:bI "int" "str"=some false:=by decide +kernel
theorem fX:bI "int" "tuple"=some false:=by decide +kernel
theorem hG:bI "int" "list"=some false:=by decide +kernel
theorem gX:bI "int" "dict"=some false:=by decide +kernel
theorem gY:bI "str" "bool"=some false:=by decide +kernel
theorem iP:bI "str" "int"=some false:=by decide +kernel
theorem iK:bI "str" "str"=some true:=by decide +kernel
theorem fY:bI "str" "tuple"=some false:=by decide +kernel
theorem gN:bI "str" "list"=some false:=by decide +kernel
theorem gZ:bI "str" "dict"=some false:=by decide +kernel
theorem fB:bI "tuple" "bool"=some false:=by decide +kernel
theorem fW:bI "tuple" "int"=some false:=by decide +kernel
theorem fN:bI "tuple" "str"=some false:=by decide +kernel
theorem eM:bI "tuple" "tuple"=some true:=by decide +kernel
theorem e8:bI "tuple" "list"=some false:=by decide +kernel
theorem fC:bI "tuple" "dict"=some false:=by decide +kernel
theorem gC:bI "list" "bool"=some false:=by decide +kernel
theorem gR:bI "list" "int"=some false:=by decide +kernel
theorem gQ:bI "list" "str"=some false:=by decide +kernel
theorem eZ:bI "list" "tuple"=some false:=by decide +kernel
theorem fT:bI "list" "list"=some true:=by decide +kernel
theorem fO:bI "list" "dict"=some false:=by decide +kernel
theorem fR:bI "dict" "bool"=some false:=by decide +kernel
theorem gU:bI "dict" "int"=some false:=by decide +kernel
theorem gS:bI "dict" "str"=some false:=by decide +kernel
theorem fA:bI "dict" "tuple"=some false:=by decide +kernel
theorem gD:bI "dict" "list"=some false:=by decide +kernel
theorem fP:bI "dict" "dict"=some true:=by decide +kernel
theorem aU {Q:UK} {u:U} {M:aF} (q:Q u M):rJ Q u M:=⟨u,M,Sub.refl M,.inl rfl,q⟩
theorem Gp {o:Bool} {k:Nat} {ix:List Nat} {wi:UI} {g:UG} {tc:UT} {te:UE} {τ:SU} {M M1:aF} {Q:UK} {S:Src} (f:U->Option U) (hw:∀ R:Src->aF->Prop,R S M1->wi τ M R) (hz:S.xs.length<=sizeLine) (hs:S.ok M1)
  (h:∀ x∈S.xs,∀ M,Sub M1 M->∀ R:Option U->aF->Prop,R (f x) M->g x (cY k ix τ) M fun τ2 M2=>tc τ2 M2 fun ok M3=>if ok=true then te τ2 M3 fun y M4=>R (some y) M4 else R none M3)
  (q:jQ o (S.xs.filterMap f) M1 Q):vR o k ix wi g tc te τ M Q:=hw _ (GO (wi:=wi) f hz hs h q)
theorem eS {wi:UI} {g:UG} {tb:US} {D:qB} {τ:SU} {M M1:aF} {S:Src} (hw:∀ R:Src->aF->Prop,R S M1->wi τ M R) (P:Nat->SU->aF->Prop) (h0:P 0 τ M1) (hok:∀ i τ M,P i τ M->S.ok M)
  (turn:∀ i x τ M,S.xs[i]?=some x->P i τ M->g x τ M fun τ2 M2=>tb { D with nx:=P (i + 1),ct:=P (i + 1),bk:=D.nx } τ2 M2) (fin:∀ τ M,P S.xs.length τ M->D.nx τ M):Gb wi g tb D τ M:=hw _ ⟨P,h0,hok,turn,fin⟩
theorem Jz {c:UT} {tb:US} {D:qB} {τ:SU} {M:aF} (P:SU->aF->Prop) (μ:SU->aF->Nat) (h0:P τ M)
  (turn:∀ τ M,P τ M->c τ M fun b M1=>if b=true then tb { D with nx:=fun τ' M'=>P τ' M'/\μ τ' M' < μ τ M,ct:=fun τ' M'=>P τ' M'/\μ τ' M' < μ τ M,bk:=D.nx } τ M1 else D.nx τ M1):B6 c tb D τ M:=⟨P,μ,h0,turn⟩
theorem lY {lo:Int} {n i:Nat} {x:U} (h:(eI lo n)[i]?=some x):x=.int (lo + i)/\i < n:=by
 have hi:i < n:=by
  have:=(List.getElem?_eq_some_iff.mp h).1
  simpa [eI] using this
 simp only [eI,List.getElem?_map,List.getElem?_range hi,Option.map_some] at h
 exact ⟨(Option.some.inj h).symm,hi⟩
theorem n9 (lo:Int) (n:Nat):(eI lo n).length=n:=by simp [eI]
end U2
namespace U2
open PySem PySem.Spec PyProof.Rows L2
inductive Fl where
 | int (i:Int) | str (x:Str)
def Fl.d:Fl->PyData
 | .int i=>.int i
 | .str x=>.str x
def Fl.u:Fl->U
 | .int i=>.int i
 | .str x=>.str x
def K4 (T:List (Str × Fl)):List (PyData × PyData):=T.map fun p=>(PyData.str p.1,p.2.d)
def d9:List (Str × Fl)->Str->Option Fl
 | [],_=>none
 | (a,b) :: r,z=>if a=z then some b else d9 r z
structure zR (P:Program) (w:World) (K:PySem.W.Frag) (d:Addr) (T:List (Str × Fl)):Prop where
 at_:∀ h:Heap,K.In h->StrTab P w h d (K4 T)
theorem Qb (a b:Str):same (.str a) (.str b)=decide (a=b):=by
 by_cases h:a=b <;> simp [same,h]
theorem lookup_tab:∀ (T:List (Str × Fl)) (z:Str),PySem.Spec.lookup (.str z) (K4 T)=(d9 T z).map Fl.d
 | [],_=>rfl
 | (a,b) :: r,z=>by
  have ih:=lookup_tab r z
  show (if same (.str a) (.str z)=true then some b.d else PySem.Spec.lookup (.str z) (K4 r))=((if a=z then some b else d9 r z).map Fl.d)
  rw [Qb]
  by_cases e:a=z
  ·rw [if_pos (decide_eq_true e),if_pos e];rfl
  ·rw [if_neg (by simpa using e),if_neg e,ih]
def Aa (T:List (Str × Fl)):List (Str × PyData):=T.map fun p=>(p.1,p.2.d)
theorem tab_of {P:Program} {w:World} {K:PySem.W.Frag} {d:Addr} {T:List (Str × Fl)} (n:((Aa T).map (·.1)).Nodup) (e:KTD.tabLook KTD.flatLooks (fun b=>K.lookup b) d (Aa T)=true) (q:KTD.hashesOf (fun b=>K.lookup b) d=(Aa T).map fun p=>(PySem.strKind P w).hash p.1):zR P w K d T:=⟨fun h hK=>by
 have:=PySem.W.kt_tab_in P w hK e n q
 unfold Aa at this
 rw [List.map_map] at this
 exact this⟩
section
variable {X:Cx} {d:Addr} {T:List (Str × Fl)}
theorem Jk (t:zR X.prog X.w X.K d T):dD X (compareOp .In) (fun x y H Q=>∃ z,x=.str z/\y=.ref d/\Q (.bl (d9 T z).isSome) H):=by
 intro pins s σ H x y v u Q I rx ry h
 obtain ⟨z,rfl,rfl,q⟩:=h
 obtain ⟨tk,rfl⟩:=rx
 cases ry
 refine in_strTab (t.at_ _ I.kIn) ?_
 rw [lookup_tab,Option.isSome_map]
 exact ⟨.bl _,H,I.tok _,rfl,q⟩
end
section
variable {D:Dat} {d:Addr} {T:List (Str × Fl)}
abbrev Tab (D:Dat):=zR D.prog D.w D.K
def pY (d:Addr) (T:List (Str × Fl)) (neg:Bool):dR:=fun x y M Q=>match x with
 | .str z=>y=.ref d/\Q (.bl (if neg then !(d9 T z).isSome else (d9 T z).isSome)) M
 | _=>False
theorem MP (t:Tab D d T):lP D .In (pY d T false):=⟨⟨_,fun X h=>Jk (by rw [h.prog,h.w,h.K];exact t),fun x y u w H M Q' rm ru rw h Q c=>by
 cases u with
 | str z=>obtain ⟨rfl,h⟩:=h;exact ⟨z,ru.str,rw.ref,c.here rm dI h⟩
 | _=>exact h.elim⟩⟩
def tY (d:Addr) (T:List (Str × Fl)):dR:=fun x y M Q=>match y with
 | .str z=>x=.ref d/\match d9 T z with
  | some f=>Q f.u M
  | none=>False
 | _=>False
def Gw (i:Nat) (f:Addr) (sp:Sp) (t:TA):TE:=fun σ H Q=>K1 i σ H fun v H1=>v=.ref f/\t σ H1 fun vs H2=>sp vs H2 Q E0
theorem Jh {X:Cx} {x:Str} {p pos:Pos} {e:Expr} {es:List Expr} {i k:Nat} {f:Addr} {fd:FuncData} {ps:List Str} {sp:Sp} {t:TA} (hN:X.N[i]?=some x) (hv:HA X.env.scope x) (F:jN X.prog X.w X.K X.mg X.base rH k f fd ps sp) (hr:eN k X.A) (hk:PySem.W.keepIn X.K (.ref f)=true) (hb:Binds X.K fd ps [])
  (ha:PA X (e :: es) t) (hd:(x == ("__debug__":Str))=false) (hcd:(x == ("__classdict__":Str))=false) (he:starEach (e :: es) X.env=(false,eval e X.env) :: starEach es X.env) (hpl:(backTo pos (starEach es X.env)).any (·.1)=false) :
  PE X (.Call (.Name x p) (e :: es) [] pos) (Gw i f sp t):=by
 intro pins s σ H Q I h
 refine wpAny_Call_Name_kw (bE (HD (i:=i) hN hv hd hcd pins s σ H _ I h) fun v s1 ⟨x',H1,I1,r1,e1,q1⟩=>?_)
 subst e1
 cases r1
 refine PySem.W.callWith_K (h₀:=X.base) I1.ok.mod.kin hk (bE (ha pos pins s1 σ H1 _ I1 q1) fun us s2 ⟨vs,H2,I2,r,q⟩=>⟨I2.kIn,?_⟩) he hpl
 exact Hi (dvs:=[]) F hr hb .nil Lk I2 r (by rw [List.append_nil];exact q)
structure xT (P:Program) (w:World) (K:PySem.W.Frag) (mg:Str->Option Value) (base:Heap) (j:Nat) (f:Addr) (sp:dC):Prop where
 ex:∃ fd ps,jN P w K mg base rH j f fd ps (iX K sp)/\PySem.W.keepIn K (.ref f)=true/\Binds K fd ps []
def nE (i:Nat) (f:Addr) (sp:dC) (t:UA):UE:=fun τ M Q=>o5 i τ M fun v M1=>v=.ref f/\t τ M1 fun us M2=>sp us M2 Q
theorem JY (i:Nat) {x:Str} {p pos:Pos} {e:Expr} {es:List Expr} {j:Nat} {f:Addr} {sp:dC} {tas:UA} (F:xT D.prog D.w D.K D.mg D.base j f sp) (ha:lZ D (e :: es) tas) (hN:D.N[i]?=some x:=by rfl) (hv:HA D.sc x:=by first | exact Or.inl rfl | exact Or.inr (Or.inl rfl) | exact Or.inr (Or.inr rfl))
  (hj:j<=D.k:=by first | exact Nat.le_refl _ | (dsimp only;omega) | omega | (dsimp only [b8];omega)) (hd:(x == ("__debug__":Str))=false:=by decide) (hcd:(x == ("__classdict__":Str))=false:=by decide)
  (he:∀ env,starEach (e :: es) env=(false,eval e env) :: starEach es env:=by intro _;rfl) (hpl:∀ env,(backTo pos (starEach es env)).any (·.1)=false:=by intro _;rfl):bB D (.Call (.Name x p) (e :: es) [] pos) (nE i f sp tas):=by
 obtain ⟨fd,ps,F,kp,hb⟩:=F.ex
 obtain ⟨t,q,s⟩:=ha
 refine ⟨Gw i f (iX D.K sp) t,fun X h=>?_,fun σ τ H M Q' rs rm h Q c=>?_⟩
 ·have F':jN X.prog X.w X.K X.mg X.base rH j f fd ps (iX D.K sp):=by rw [h.prog,h.w,h.K,h.mg,h.base];exact F
  exact Jh (by rw [h.N];exact hN) (by rw [h.sc];exact hv) F' (h.room.mono hj) (by rw [h.K];exact kp) (by rw [h.K];exact hb) (q X h) hd hcd (he _) (hpl _)
 ·refine En i σ τ H M _ rs rm h _ fun u v M1 H1 s1 rm1 ru h1=>?_
  obtain ⟨rfl,h1⟩:=h1
  refine ⟨ru.ref,s σ τ H1 M1 _ (rs.stp s1) rm1 h1 _ fun us vs M2 H2 s2 rm2 rus h2=>?_⟩
  exact ⟨us,M2,Q',rm2,rus,h2,eE.stp c (s1.trans s2)⟩
end
end U2
namespace U2
open PySem PySem.Spec PyProof.Rows L2
def half (j:Int):Nat:=((j + 1) / 2).toNat
theorem Q6 {j:Int} (h:0<=j):Builtin.Range.rangeSize 0 j 2=(half j:Nat):=by
 unfold Builtin.Range.rangeSize half
 simp only [show (2:Int) > 0 by decide,if_true]
 split <;> omega
def Ee (n:Nat):List U:=(List.range n).map fun (k:Nat)=>U.int ((k:Int) * 2)
theorem P6 (n:Nat):(Ee n).length=n:=by simp [Ee]
end U2
namespace U2
open PySem PySem.Spec PyProof.Rows L2
def sG:List U->Option (List Str)
 | []=>some []
 | .str b :: r=>(sG r).map (b :: ·)
 | _=>none
theorem Be {K:PySem.W.Frag} {H:Hp} {M:aF}:∀ {us:List U} {vs:List V} {bs:List Str},aK K H M us vs->sG us=some bs->vs=bs.map V.str
 | [],_,_,r,h=>by cases h;exact r.inv_nil
 | u :: us,_,bs,r,h=>by
  obtain ⟨v,vs',rfl,a,b⟩:=r.inv_cons
  cases u with
  | str y =>
   simp only [sG] at h
   cases e:sG us with
   | none=>rw [e] at h;cases h
   | some cs =>
    rw [e] at h
    cases h
    rw [Be b e,a.str];rfl
  | _=>cases h
end U2
namespace U2
open PySem L2
theorem CQ {α:Type} {a:α} {r:List α}:eL (a :: r) 0=some a:=iE (j:=0) rfl
theorem Cu {α:Type} {a b:α} {r:List α}:eL (a :: b :: r) 1=some b:=iE (j:=1) rfl
theorem at2 {α:Type} {a b c:α} {r:List α}:eL (a :: b :: c :: r) 2=some c:=iE (j:=2) rfl
theorem B5 {α:Type} {a b c d:α} {r:List α}:eL (a :: b :: c :: d :: r) 3=some d:=iE (j:=3) rfl
theorem zY {α:Type} (l:List α) (i:Int) (h0:0<=i) (h1:i < l.length):∃ c,eL l i=some c:=by
 have hl:i.toNat < l.length:=by omega
 refine ⟨l[i.toNat],?_⟩
 have e:((i.toNat:Nat):Int)=i:=by omega
 have q:=iE (xs:=l) (j:=i.toNat) (v:=l[i.toNat]) (by simp [hl])
 rw [e] at q
 exact q
theorem Q3 {α:Type} (a:α) (r:List α):dB (a :: r) (some 1) none=r:=by
 unfold dB
 simp [HT.bP]
 try omega
theorem pH {M:aF}:view M .non=.non:=rfl
theorem oG {M:aF} {x:Bool}:view M (.bl x)=.bl x:=rfl
theorem o6 {M:aF} {x:Int}:view M (.int x)=.int x:=rfl
theorem o7 {M:aF} {x:Str}:view M (.str x)=.str x:=rfl
theorem pT {M:aF} {x:List U}:view M (.tup x)=.tup x:=rfl
theorem o4 {M:aF} {x:List U}:view M (.lst x)=.lst x:=rfl
theorem nG {M:aF} {p:Addr} {us:List U}:view (mup M p (.lst us)) (.ref p)=.lst us:=jE aH
theorem AG {M:aF} {p:Addr} {us:List U}:IE (mup M p (.lst us)) (.ref p):=⟨us,nG⟩
theorem Sub.none {M M':aF} {p:Addr} (h:Sub M M') (hp:M' p=none):M p=none:=by
 cases e:M p with
 | none=>rfl
 | some o=>rw [h p o e] at hp;cases hp
theorem dX {o:Bool} {k:Nat} {ix:List Nat} {wi:UI} {g:UG} {te:UE} {τ:SU} {M M1:aF} {Q:UK} {S:Src} (zs:List U) (hw:∀ R:Src->aF->Prop,R S M1->wi τ M R) (hl:zs.length=S.xs.length) (hz:S.xs.length<=sizeLine) (hs:S.ok M1)
  (h:∀ (i:Nat) x y,S.xs[i]?=some x->zs[i]?=some y->∀ M,Sub M1 M->∀ R:UK,R y M->g x (cY k ix τ) M fun τ2 M2=>te τ2 M2 R)
  (q:jQ o zs M1 Q):vR o k ix wi g (fun _ M Q=>Q true M) te τ M Q:=by
 refine hw _ ⟨hz,fun D hD=>⟨fun i ys M=>ys=zs.take i/\M=mup M1 D (.lst ys)/\i<=S.xs.length,⟨by simp,rfl,Nat.zero_le _⟩,?_,?_,?_⟩⟩
 ·rintro i ys M ⟨rfl,rfl,hi⟩
  refine ⟨fun a e=>?_,aH,?_⟩
  ·have:=hs a e
   rw [aO (fun z=>by subst z;rw [hD] at this;cases this)]
   exact this
  ·rw [List.length_take];omega
 ·rintro i x ys M e ⟨rfl,rfl,hi⟩
  have hlt:i < S.xs.length:=(List.getElem?_eq_some_iff.mp e).1
  have hy:zs[i]?=some zs[i]:=by simp [show i < zs.length by omega]
  have tk:zs.take (i + 1)=zs.take i++[zs[i]]:=by rw [List.take_add_one,hy];rfl
  refine h i x zs[i] e hy (mup M1 D (.lst (zs.take i))) ((Sub.refl M1).mup hD) (fun y M4=>M4 D=some (.lst (zs.take i))/\(zs.take i++[y]=zs.take (i + 1)/\mup M4 D (.lst (zs.take i++[y]))=mup M1 D (.lst (zs.take i++[y]))/\i + 1<=S.xs.length)) ?_
  exact ⟨aH,tk.symm,bX,hlt⟩
 ·rintro ys M ⟨rfl,rfl,hi⟩
  rw [show zs.take S.xs.length=zs by rw [<- hl];exact List.take_length]
  cases o with
  | true=>exact q D hD
  | false=>exact ⟨M1,(Sub.refl M1).mup hD,hD,q⟩
end U2
namespace U2
open PySem PySem.Spec PyProof.Rows L2
section
variable {prog:Program} {w:World} {A:Around} {E:Value->Shared->Prop} {s:Shared}
theorem wF {it t:Addr} {i:Nat} {items} {x:Value} {Q:Value->Shared->Prop} (hit:s.heap.IsTupleIter it t i)
  (ht:s.heap.IsTuple t items) (hx:items[i]?=some x)
  (hQ:∀ h',h'.IsTupleIter it t (i + 1)->Heap.SameBut it s.heap h'->Q x { s with heap:=h' }) :
  wpAny (model prog w) A (Builtin.SmallTypes.nextOf (.ref it)) Q E s:=by
 obtain ⟨o,ho,hc,hd⟩:=id hit
 obtain ⟨ol,hol,_,nl,hdl⟩:=ht
 unfold Builtin.SmallTypes.nextOf
 refine wpAny_bind (wpAny_callSpecial?_slot (name:=Str.ofString "__next__") hit.typeIs PySem.F.slot_tuple_iterator_next
  (wpAny_call_entry PySem.F.slot_tuple_iterator_next hit.typeIs PySem.F.entry_tuple_iterator_next ?_ (PySem.F.args_tuple_iterator_next_1 _)))
 show wpAny _ _ (field (.ref it) 0 >>= _) _ _ s
 refine wpAny_bind (wpAny_field ho hd (x:=.ref t) rfl ?_)
 show wpAny _ _ (if (Value.ref t == Value.none)=true then _ else _) _ _ s
 rw [if_neg (show ¬ ((Value.ref t == Value.none)=true) from Bool.false_ne_true)]
 show wpAny _ _ (field (.ref it) 1 >>= _) _ _ s
 refine wpAny_bind (wpAny_field ho hd (x:=.int i 0) rfl ?_)
 show wpAny _ _ (seqItems? (.ref t) >>= _) _ _ s
 refine wpAny_bind (wpAny_seqItems hol hdl ?_)
 simp only [Int.toNat_natCast,hx]
 refine wpAny_bind (wpAny_setField ho hd (by simp) (wpAny_pure ⟨x,rfl,wpAny_pure (hQ _ ?_ (Heap.SameBut.update ..))⟩))
 exact ⟨_,Heap.get?_update_self _ ho (Obj.isFreed_of_fields (Obj.data_mapFields hd _)),(Obj.cls_mapFields ..).trans hc,by
  rw [Obj.data_mapFields hd];simp [rawInt]⟩
theorem xO {it t:Addr} {i:Nat} {items} {Q:Value->Shared->Prop} (hh:A.handled=none)
  (hit:s.heap.IsTupleIter it t i) (ht:s.heap.IsTuple t items) (hx:items[i]?=none)
  (hE:∀ h' e,Heap.ExtBut it s.heap h'->(∃ o,h'.get? e=some o/\o.cls=.type "StopIteration")->E (.ref e) { s with heap:=h' }) :
  wpAny (model prog w) A (Builtin.SmallTypes.nextOf (.ref it)) Q E s:=by
 obtain ⟨o,ho,hc,hd⟩:=id hit
 obtain ⟨ol,hol,_,nl,hdl⟩:=ht
 unfold Builtin.SmallTypes.nextOf
 refine wpAny_bind (wpAny_callSpecial?_slot (name:=Str.ofString "__next__") hit.typeIs PySem.F.slot_tuple_iterator_next
  (wpAny_call_entry PySem.F.slot_tuple_iterator_next hit.typeIs PySem.F.entry_tuple_iterator_next ?_ (PySem.F.args_tuple_iterator_next_1 _)))
 show wpAny _ _ (field (.ref it) 0 >>= _) _ _ s
 refine wpAny_bind (wpAny_field ho hd (x:=.ref t) rfl ?_)
 show wpAny _ _ (if (Value.ref t == Value.none)=true then _ else _) _ _ s
 rw [if_neg (show ¬ ((Value.ref t == Value.none)=true) from Bool.false_ne_true)]
 show wpAny _ _ (field (.ref it) 1 >>= _) _ _ s
 refine wpAny_bind (wpAny_field ho hd (x:=.int i 0) rfl ?_)
 show wpAny _ _ (seqItems? (.ref t) >>= _) _ _ s
 refine wpAny_bind (wpAny_seqItems hol hdl ?_)
 simp only [Int.toNat_natCast,hx]
 refine wpAny_bind (wpAny_rule (wpAny_bind (wpAny_setField ho hd (by simp) ?_)))
 show wpAny _ _ (newExc (.type "StopIteration") [] >>= _) _ _ _
 refine wpAny_bind ?_
 simp only [newExc,newTuple]
 refine wpAny_bind (wpAny_newObj_type ?_ (by size_fits))
 refine wpAny_bind (m:=firstArgMember _ _) (wpAny_of_eq (a:=Value.none) (by first | rfl | (simp only [firstArgMember];rfl)) ?_)
 refine wpAny_newObj_type ?_ (by size_fits)
 simp only [raiseNew]
 refine wpAny_bind (wpAny_handled ?_)
 first | rw [show A.in1.handled=none from hh] | rw [hh]
 refine wpAny_bind (wpAny_pure (wpAny_throw ?_))
 exact hE _ _ (((Heap.SameBut.update ..).extBut.push _).push _) ⟨_,Heap.get?_push_size _ rfl,rfl⟩
theorem Dn {prog:Program} {w:World} {A:Around} (hh:A.handled=none) (it l:Addr) (hne:l≠it) (items:Array Value) :
  Draws prog w A it [it,l] items.size (fun i v=>items[i]?=some v) (fun i h=>h.IsTupleIter it l i/\h.IsTuple l items) where
 live:=fun _ _ st=>let ⟨o,ho,_⟩:=st.1;⟨o,ho⟩
 frame:=fun _ _ _ st hk=>⟨st.1.at fun o e=>hk it (by simp) o e,let ⟨o,ho,r⟩:=st.2;⟨o,hk l (by simp) o ho,r⟩⟩
 item:=fun i s Q E hi st hQ=>by
  refine wF st.1 st.2 (x:=items[i]) (by simp [hi]) fun h' hit' hs'=>?_
  exact hQ _ h' s.toks (by simp [hi]) ⟨hit',let ⟨o,ho,r⟩:=st.2;⟨o,hs'.extBut l o hne ho,r⟩⟩ hs'
 done:=fun s Q E st hE=>xO hh st.1 st.2 (by simp) hE
end
def nT (b:Bool) (K:PySem.W.Frag) (H:Hp) (a:Addr) (xs:List V):Prop:=match b with
 | true=>dY K H a xs
 | false=>eW K H a xs
def kP (b:Bool) (h:Heap) (a:Addr) (xs:Array Value):Prop:=match b with
 | true=>h.IsList a xs
 | false=>h.IsTuple a xs
def lS (b:Bool) (h:Heap) (it a:Addr) (i:Nat):Prop:=match b with
 | true=>h.IsListIter it a i
 | false=>h.IsTupleIter it a i
def QU:Bool->String
 | true=>"list"
 | false=>"tuple"
def uU:Bool->String
 | true=>"list_iterator"
 | false=>"tuple_iterator"
theorem k7 {h:Heap} {b b':Addr} {o o':Obj} {n n':String} (x:h.get? b=some o) (y:h.get? b'=some o') (p:o.cls=.type n) (q:o'.cls=.type n') (ne:n≠n'):b≠b':=fun z=>by
 subst z;rw [x] at y;cases y;rw [p] at q;exact ne (Value.type.inj q)
theorem kP.obj {b:Bool} {h:Heap} {a:Addr} {xs:Array Value} (p:kP b h a xs):∃ o n,h.get? a=some o/\o.cls=.type (QU b)/\o.data=.seq xs n:=by
 cases b <;> (obtain ⟨o,e,c,n,d⟩:=p;exact ⟨o,n,e,c,d⟩)
theorem lS.obj {b:Bool} {h:Heap} {it a:Addr} {i:Nat} (p:lS b h it a i):∃ o,h.get? it=some o/\o.cls=.type (uU b)/\o.data=.fields #[.ref a,.int i 0]:=by
 cases b <;> exact p
theorem lS.of {b:Bool} {h:Heap} {it a:Addr} {i:Nat} {o:Obj} (e:h.get? it=some o) (c:o.cls=.type (uU b)) (d:o.data=.fields #[.ref a,.int i 0]):lS b h it a i:=by
 cases b <;> exact ⟨o,e,c,d⟩
theorem lS.at {b:Bool} {h h':Heap} {it a:Addr} {i:Nat} (p:lS b h it a i) (k:∀ o,h.get? it=some o->h'.get? it=some o):lS b h' it a i :=
 let ⟨o,e,c,d⟩:=p.obj;.of (k o e) c d
theorem kP.ne {b b':Bool} {h:Heap} {a it c:Addr} {xs:Array Value} {i:Nat} (p:kP b h a xs) (q:lS b' h it c i):a≠it :=
 let ⟨_,_,e,c,_⟩:=p.obj;let ⟨_,e',c',_⟩:=q.obj;k7 e e' c c' (by cases b <;> cases b' <;> decide)
theorem yX {X:Cx} {pins:List (Addr × Obj)} {σ:L2.St} {H:Hp} {s:Shared} {b:Bool} {a:Addr} {xs:List V} (I:L2.Inv X pins σ H s) (h:nT b X.K H a xs):∃ its:List Value,Vals xs its/\kP b s.heap a its.toArray/\xs.length<=sizeLine:=by
 cases b
 ·exact I.tuple h
 ·obtain ⟨its,r,p,z⟩:=I.list h;exact ⟨its,r,p.isList,z⟩
theorem N6 {X:Cx} {pins:List (Addr × Obj)} {σ:L2.St} {H:Hp} {s:Shared} {b:Bool} {a:Addr} {xs ys:List V} (I:L2.Inv X pins σ H s) (h:nT b X.K H a xs) (h':nT b X.K H a ys):xs=ys:=by
 cases b
 ·exact I.tuple_inj h h'
 ·exact I.list_inj h h'
theorem mQ {prog:Program} {w:World} {A:Around} (b:Bool) (hh:A.handled=none) (it l:Addr) (hne:l≠it) (items:Array Value) :
  Draws prog w A it [it,l] items.size (fun i v=>items[i]?=some v) (fun i h=>lS b h it l i/\kP b h l items):=by
 cases b
 ·exact Dn hh it l hne items
 ·exact Draws.list hh it l hne items
def Iy (b:Bool) (K:PySem.W.Frag) (H:Hp) (M:aF) (a:Addr) (vs:List V):Prop:=∀ H1 M1,aS H M H1 M1->nT b K H1 a vs
theorem HX {K:PySem.W.Frag} {H:Hp} {M:aF} {a:Addr} {vs:List V} (m:M a=none/\H a=some (.tup vs)):Iy false K H M a vs:=fun _ _ s=>.inl (.inl (s.to m.2 m.1).1)
theorem IB {K:PySem.W.Frag} {H:Hp} {M:aF} {a:Addr} {vs:List V} (m:(M a=none/\Rd H a (.lst vs))\/KL K a vs):Iy true K H M a vs:=fun _ _ s=>by
 rcases m with ⟨m,h⟩ | k
 ·exact .inl (Rd.stp s m h).2
 ·exact .inr k
section
variable {prog:Program} {w:World} {A:Around} {E:Value->Shared->Prop} {s:Shared}
theorem xZ (l:Addr) (items:Array Value) (n:Nat) (dd:Option Addr) (sl:Array (Option Value)) :
  Meets (Builtin.«enumerate.__new__» ⟨[.type "enumerate",.ref l],[]⟩) (fun _ R s=>s.heap.get? l=some { cls:=.type "tuple",dict:=dd,data:=.seq items n,slots:=sl } /\
   R (.ok (.ret (.ref (s.heap.push { cls:=.type "tuple_iterator",data:=.fields #[.ref l,.int 0 0] }).objs.size)))
    { s with heap:=(s.heap.push { cls:=.type "tuple_iterator",data:=.fields #[.ref l,.int 0 0] }).push { cls:=.type "enumerate",data:=.fields #[.none,.bool false,.ref s.heap.objs.size,rawInt 0,.none,.none] } }) :=
 .of_wp fun prog w A R s h=>by
  obtain ⟨hp,g,d,tk,os⟩:=s;obtain ⟨hl,h⟩:=h
  have hsub:=PySem.sub_enumerate
  have hL:Heap.IsTuple (Shared.heap ⟨hp,g,d,tk,os⟩) l items:=⟨_,hl,rfl,n,rfl⟩
  wp_walk using wpAny_loadPart' hl
  refine wpAny_stack_any fun st=>wpAny_pure ?_
  split
  ·rename_i c _ _ _ _ _
   cases (c == Value.type "enumerate")
   ·wp_walk using wpAny_loadPart' hl,wpAny_pyIter_tuple hL
    exact ⟨_,rfl,h⟩
   ·wp_walk using wpAny_loadPart' hl,wpAny_pyIter_tuple hL
    exact ⟨_,rfl,h⟩
  ·wp_walk using wpAny_loadPart' hl,wpAny_pyIter_tuple hL
   exact ⟨_,rfl,h⟩
theorem yH (l:Addr) (items:Array Value) (n:Nat) (dd:Option Addr) (sl:Array (Option Value)) :
  Meets (Builtin.«enumerate.__new__» ⟨[.type "enumerate",.ref l],[]⟩) (fun _ R s=>s.heap.get? l=some { cls:=.type "list",dict:=dd,data:=.seq items n,slots:=sl } /\
   R (.ok (.ret (.ref (s.heap.push { cls:=.type "list_iterator",data:=.fields #[.ref l,.int 0 0] }).objs.size)))
    { s with heap:=(s.heap.push { cls:=.type "list_iterator",data:=.fields #[.ref l,.int 0 0] }).push { cls:=.type "enumerate",data:=.fields #[.none,.bool false,.ref s.heap.objs.size,rawInt 0,.none,.none] } }) :=
 .of_wp fun prog w A R s h=>by
  obtain ⟨hp,g,d,tk,os⟩:=s;obtain ⟨hl,h⟩:=h
  have hsub:=PySem.sub_enumerate
  have hL:Heap.IsList (Shared.heap ⟨hp,g,d,tk,os⟩) l items:=⟨_,hl,rfl,n,rfl⟩
  wp_walk using wpAny_loadPart' hl
  refine wpAny_stack_any fun st=>wpAny_pure ?_
  split
  ·rename_i c _ _ _ _ _
   cases (c == Value.type "enumerate")
   ·wp_walk using wpAny_loadPart' hl,wpAny_pyIter_list hL
    exact ⟨_,rfl,h⟩
   ·wp_walk using wpAny_loadPart' hl,wpAny_pyIter_list hL
    exact ⟨_,rfl,h⟩
  ·wp_walk using wpAny_loadPart' hl,wpAny_pyIter_list hL
   exact ⟨_,rfl,h⟩
end
theorem rC {X:Cx} {pins:List (Addr × Obj)} {σ:L2.St} {H:Hp} {s:Shared} {h':Heap} {ch:List Addr} {T:Addr} {o:HO} {tk:Nat} (I:L2.Inv X pins σ H s) (hf:∀ b∈ch,qP X pins H b)
  (k:∀ b o,b ∉ ch->s.heap.get? b=some o->h'.get? b=some o) (hT:s.heap.objs.size<=T) (new:cK X.prog X.w (upd H T o) h' T o):L2.Inv X pins σ (upd H T o) { s with heap:=h',toks:=tk }:=by
 have hn:H T=none:=I.hok.fresh hT
 refine I.call' (ch:=ch) (H':=upd H T o) rfl ⟨fun b u q n hb hx=>k b u hx q,fun b u q n hb hx=>⟨u.slots,k b u hx q⟩,fun b u q n hx=>?_,fun b u q hx=>⟨u,k b u hx q⟩,fun b xs q=>by rw [bL (cN q hn)];exact q,fun b u xs q=>by rw [bL (cN q hn)];exact q,
  fun b ps q=>⟨#[],by rw [bL (cN q hn),q];simp⟩⟩ (fun a u e=>?_) I.bare fun b hb=>⟨(hf b hb).2.2.2.1,(hf b hb).2.1,(hf b hb).2.2.2.2.1,(hf b hb).2.2.2.2.2⟩
 ·rw [bL (Nat.ne_of_lt (Nat.lt_of_lt_of_le (Heap.lt_size q) hT))];exact n
 ·by_cases ha:a=T
  ·subst ha;rw [cT] at e;cases e;exact new
  ·rw [bL ha] at e
   refine (I.hok a u e).stay (fun b z hb q=>k b z (fun hc=>?_) q) (fun c q=>by rw [bL (cN q hn)];exact q) fun c xs q=>by rw [bL (cN q hn)];exact q
   have hnone:=(hf b hc).1
   rcases hb with rfl | hb
   ·rw [hnone] at e;cases e
   ·rw [hnone] at hb;cases hb
def NR (f:Bool) (K:PySem.W.Frag) (a:Addr):It :=
 ⟨fun i H=>∃ xs x,nT f K H a xs/\xs[i]?=some x,fun i H x H'=>∃ p v,(∀ xs,nT f K H a xs->xs[i]?=some v)/\H p=none/\x=.ref p/\H'=upd H p (.tup [.int i,v]),fun i H=>∃ xs,nT f K H a xs/\xs.length=i⟩
theorem ID {P:Program} {w:World} {K:PySem.W.Frag} {elts:List Expr} {kk:Nat} {pos:Pos} (f:Bool) (a it e:Addr):Turn P w K (.Tuple elts kk pos) (NR f K a) [e,it] e (fun i h=>(∃ old,IsEnum h e it i old)/\lS f h it a i) where
 mem:=by simp
 obj:=fun i h st b hb=>by
  obtain ⟨⟨old,he⟩,hi⟩:=st
  obtain ⟨o,ho,hc,hd⟩:=hi.obj
  have:b=e\/b=it:=by simpa using hb
  rcases this with rfl | rfl
  ·exact ⟨_,he,fun v z=>by
    have z':Data.fields _=Data.cell v:=z
    cases z'⟩
  ·exact ⟨o,ho,fun v z=>by rw [hd] at z;cases z⟩
 keep:=fun i h h' st k=>let ⟨⟨old,he⟩,hi⟩:=st;⟨⟨old,k e (by simp) _ he⟩,hi.at fun o q=>k it (by simp) o q⟩
 item:=by
  intro X hP hw hK hc i pins s σ H E I hf st hg
  subst hP hw hK
  obtain ⟨⟨old,he⟩,hit⟩:=st
  obtain ⟨xs,x,hq,hx⟩:=hg
  obtain ⟨its,rv,p,hz⟩:=yX I hq
  obtain ⟨u,hu,ru⟩:=rv.get hx
  have p':kP f s.heap a its.toArray:=p
  obtain ⟨oi,hoi,hci,hdi⟩:=hit.obj
  obtain ⟨oa,na,hoa,hca,hda⟩:=p'.obj
  have n1:a≠it:=p'.ne hit
  have n2:e≠it:=k7 he hoi rfl hci (by cases f <;> decide)
  have n3:e≠a:=k7 he hoa rfl hca (by cases f <;> decide)
  have W:=WalksT.enumerateD (prog:=X.prog) (w:=X.w) (A:=X.A) (mQ f (A:=X.A.in1) (show X.A.in1.handled=none from I.ok.hd hc) it a n1 its.toArray) e n2 (by simp [n2,n3]) (by simp)
  have hlt:i < its.toArray.size:=by
   have:=(List.getElem?_eq_some_iff.mp hu).1
   simpa using this
  have hD:=mQ f (prog:=X.prog) (w:=X.w) (A:=X.A.in1) (show X.A.in1.handled=none from I.ok.hd hc) it a n1 its.toArray
  refine wpAny_pyNext_enum_itemD hD he ⟨hit,p'⟩ hlt n2 (by simp [n2,n3]) fun y h' tk hy ho0 hs0 hT0 hsz0 hk0=>?_
  have helt:e < s.heap.objs.size:=Heap.lt_size he
  have hilt:it < s.heap.objs.size:=Heap.lt_size hoi
  have gB:iS h' s.heap.objs.size #[Value.int i tk,y]:=⟨_,hT0,rfl,rfl,_,rfl⟩
  have hk:∀ b o,b ∉ [e,it]->s.heap.get? b=some o->h'.get? b=some o:=fun b o hb z=>hk0 b o (fun e'=>hb (by simp [e'])) (fun e'=>hb (by simp [e'])) z
  have hMid:=(⟨⟨_,ho0⟩,hs0,Nat.ne_of_gt helt,Nat.ne_of_gt hilt⟩:(∃ x,IsEnumOut h' e it ((i:Int) + 1) x s.heap.objs.size)/\_/\s.heap.objs.size≠e/\s.heap.objs.size≠it)
  obtain ⟨T,hTe⟩:∃ T,T=s.heap.objs.size:=⟨_,rfl⟩
  rw [<- hTe] at gB hMid ⊢
  have hT:s.heap.objs.size<=T:=Nat.le_of_eq hTe.symm
  refine ⟨.ref T,rfl,W.go elts kk pos i T _ _ E hMid fun h'' hSt hk2=>?_⟩
  have hy':y=u:=by
   have h3:its[i]?=some y:=by simpa using hy
   rw [hu] at h3;exact (Option.some.inj h3).symm
  subst hy'
  have hTT:iS h'' T #[.int i tk,y]:=let ⟨o,ho,r⟩:=gB;⟨o,hk2 T o (W.apart i T _ hMid) ho,r⟩
  refine ⟨.ref T,upd H T (.tup [.int i,x]),rC (s:=s) (h':=h'') (tk:=tk + 1) (ch:=[e,it]) I hf (fun b o hb q=>hk2 b o (by simpa using hb) (hk b o (by simpa using hb) q)) hT ⟨by show 2<=sizeLine;decide,[.int i tk,y],.cons ⟨tk,rfl⟩ (.cons ru .nil),hTT⟩,rfl,⟨T,x,fun ys hy=>by rw [<- N6 I hq hy];exact hx,I.hok.fresh hT,rfl,rfl⟩,⟨by simpa using hSt.1,hSt.2.1⟩,fun b hb=>?_⟩
  have hn:=(hf b hb).1
  rw [bL (Nat.ne_of_lt (Nat.lt_of_lt_of_le ?_ hT))]
  ·exact hn
  ·have:b=e\/b=it:=by simpa using hb
   rcases this with rfl | rfl
   ·exact Heap.lt_size he
   ·exact Heap.lt_size hoi
 done:=by
  intro X hP hw hK hc i pins s σ H E I hf st hg
  subst hP hw hK
  obtain ⟨⟨old,he⟩,hit⟩:=st
  obtain ⟨xs,hq,hx⟩:=hg
  obtain ⟨its,rv,p,hz⟩:=yX I hq
  have p':kP f s.heap a its.toArray:=p
  obtain ⟨oi,hoi,hci,hdi⟩:=hit.obj
  obtain ⟨oa,na,hoa,hca,hda⟩:=p'.obj
  have n1:a≠it:=p'.ne hit
  have n2:e≠it:=k7 he hoi rfl hci (by cases f <;> decide)
  have n3:e≠a:=k7 he hoa rfl hca (by cases f <;> decide)
  have W:=WalksT.enumerateD (prog:=X.prog) (w:=X.w) (A:=X.A) (mQ f (A:=X.A.in1) (show X.A.in1.handled=none from I.ok.hd hc) it a n1 its.toArray) e n2 (by simp [n2,n3]) (by simp)
  have hi:i=its.toArray.size:=by rw [List.size_toArray,<- rv.length];exact hx.symm
  subst hi
  refine W.done s _ E ⟨⟨old,he⟩,hit,p'⟩ fun h' tk hk=>⟨rfl,?_⟩
  have:=I.call' (ch:=[e,it]) (H':=H) (s':={ s with heap:=h',toks:=tk }) rfl ⟨fun b u q n hb hx=>hk b u (by simpa using hx) q,fun b u q n hb hx=>⟨u.slots,hk b u (by simpa using hx) q⟩,fun b u q n hx=>n,fun b u q hx=>⟨u,hk b u (by simpa using hx) q⟩,fun b xs q=>q,fun b u xs q=>q,fun b ps q=>⟨#[],by rw [q];simp⟩⟩
   (fun a u e'=>?_) I.bare fun b hb=>⟨(hf b hb).2.2.2.1,(hf b hb).2.1,(hf b hb).2.2.2.2.1,(hf b hb).2.2.2.2.2⟩
  ·exact this
  ·refine (I.hok a u e').stay (fun b z hb q=>hk b z (fun hc=>?_) q) (fun _ q=>q) fun _ _ q=>q
   have hnone:=(hf b (by simpa using hc)).1
   rcases hb with rfl | hb
   ·rw [hnone] at e';cases e'
   ·rw [hnone] at hb;cases hb
 self:=fun _ _ _ _ _ st h=>let ⟨⟨old,he⟩,_⟩:=st;wpAny_pyIter_enum he h
theorem FK {prog:Program} {w:World} {A:Around} {E:Value->Shared->Prop} {s:Shared} {f:Bool} {l:Addr} {items:Array Value} {Q:Value->Shared->Prop}
  (hl:kP f s.heap l items)
  (h:∀ h',IsEnum h' (s.heap.objs.size + 1) s.heap.objs.size 0 .none->lS f h' s.heap.objs.size l 0->h'.objs.size=s.heap.objs.size + 2 ->
   (∀ b o,s.heap.get? b=some o->h'.get? b=some o)->Q (.ref (s.heap.objs.size + 1)) { s with heap:=h' }) :
  wpAny (model prog w) A (call (.type "enumerate") [.ref l]) Q E s:=by
 have fin:Q (.ref (s.heap.push { cls:=.type (uU f),data:=.fields #[.ref l,.int 0 0] }).objs.size)
   { s with heap:=(s.heap.push { cls:=.type (uU f),data:=.fields #[.ref l,.int 0 0] }).push { cls:=.type "enumerate",data:=.fields #[.none,.bool false,.ref s.heap.objs.size,rawInt 0,.none,.none] } } /\
   ((s.heap.push { cls:=.type (uU f),data:=.fields #[.ref l,.int 0 0] }).push { cls:=.type "enumerate",data:=.fields #[.none,.bool false,.ref s.heap.objs.size,rawInt 0,.none,.none] }).get? (s.heap.push { cls:=.type (uU f),data:=.fields #[.ref l,.int 0 0] }).objs.size=some { cls:=.type "enumerate",data:=.fields #[.none,.bool false,.ref s.heap.objs.size,rawInt 0,.none,.none] }:=by
  have hz:(s.heap.push { cls:=.type (uU f),data:=.fields #[.ref l,.int 0 0] }).objs.size=s.heap.objs.size + 1:=Heap.size_push ..
  have he:=Heap.get?_push_size (s.heap.push { cls:=.type (uU f),data:=.fields #[.ref l,.int 0 0] })
   (o:={ cls:=.type "enumerate",data:=.fields #[.none,.bool false,.ref s.heap.objs.size,rawInt 0,.none,.none] }) rfl
  refine ⟨?_,he⟩
  rw [hz] at he
  rw [hz]
  exact h _ he (.of (Heap.get?_push_of_some _ (Heap.get?_push_size _ rfl)) rfl rfl) (by rw [Heap.size_push,hz]) fun b o x=>Heap.get?_push_of_some _ (Heap.get?_push_of_some _ x)
 obtain ⟨⟨oc,od,odt,osl⟩,n,ho,hc,hd⟩:=hl.obj
 have hc':oc=.type (QU f):=hc
 have hd':odt=.seq items n:=hd
 subst hc' hd'
 cases f
 ·exact callType_new F.called_enumerate (by decide) (F.typeCall_enumerate_1 _) (F.newCall_enumerate_1 _) (fun obj=>F.args_object_init_2 obj _) F.entry_enumerate_new
   (xZ l items n od osl) ⟨ho,⟨_,fin.2,rfl⟩,fin.1⟩
 ·exact callType_new F.called_enumerate (by decide) (F.typeCall_enumerate_1 _) (F.newCall_enumerate_1 _) (fun obj=>F.args_object_init_2 obj _) F.entry_enumerate_new
   (yH l items n od osl) ⟨ho,⟨_,fin.2,rfl⟩,fin.1⟩
def Fd (f:Bool) (K:PySem.W.Frag) (ta:TA):TI:=fun σ H R=>ta σ H fun vs H1=>∃ a,vs=[.ref a]/\(∃ xs,nT f K H1 a xs)/\R (NR f K a) H1
theorem Eu {f:Bool} {X:Cx} {elts:List Expr} {kk:Nat} {tpos:Pos} {a:Expr} {ta:TA} {p pos:Pos} (hg:Gl X "enumerate") (hm:X.mg "enumerate"=none) (ha:PA X [a] ta) (hs:starEach [a] X.env=[(false,eval a X.env)]) :
  PI X (.Tuple elts kk tpos) (.Call (.Name "enumerate" p) [a] [] pos) (Fd f X.K ta):=by
 intro pins s σ H R I h
 refine Call_ (nK I hg hm boot_enumerate (PyProof.Rows.callWith_type1 (bE (ha pos pins s σ H _ I h) fun us s1 ⟨vs,H1,I1,r1,q1⟩=>?_) hs rfl))
 obtain ⟨a,e,⟨xs,hq⟩,q⟩:=q1
 subst e
 cases r1 with
 | cons r rr =>
  cases rr
  cases r
  obtain ⟨its,rv,p,hz⟩:=yX I1 hq
  refine FK p fun h' he hit hsz hk=>?_
  refine wpAny_pyIter_enum (s:={ s1 with heap:=h' }) he ?_
  have I2:L2.Inv X pins σ H1 { s1 with heap:=h',toks:=s1.toks }:=I1.kept hk
  refine ⟨s1.heap.objs.size + 1,[s1.heap.objs.size + 1,s1.heap.objs.size],_,_,H1,rfl,I2,ID f a s1.heap.objs.size (s1.heap.objs.size + 1),⟨⟨_,he⟩,hit⟩,fun b hb=>?_,q⟩
  have e:b=s1.heap.objs.size + 1\/b=s1.heap.objs.size:=by simpa using hb
  rcases e with rfl | rfl
  ·exact I1.fpOk (Nat.le_succ _) (I1.hok.fresh (Nat.le_succ _))
  ·exact I1.fpOk (Nat.le_refl _) (I1.hok.fresh (Nat.le_refl _))
def numbered (us:List U):List U:=us.zipIdx.map fun p=>.tup [.int (p.2:Nat),p.1]
theorem kC (us:List U):(numbered us).length=us.length:=by simp [numbered]
theorem kA {us:List U} {i:Nat} {x:U} (h:(numbered us)[i]?=some x):∃ u,us[i]?=some u/\x=.tup [.int i,u]:=by
 simp only [numbered,List.getElem?_map,List.getElem?_zipIdx] at h
 cases e:us[i]? with
 | none=>rw [e] at h;simp at h
 | some u=>rw [e] at h;simp at h;exact ⟨u,rfl,h.symm⟩
theorem AX {f:Bool} {K:PySem.W.Frag} {a:Addr} {us:List U} {vs:List V} {H:Hp} {M:aF} (sq:Iy f K H M a vs) (r:aK K H M us vs):Walk K (NR f K a) ⟨none,numbered us⟩ H M:=by
 refine ⟨fun H1 M1 s rm _ i u e=>?_,fun H1 M1 s rm _=>⟨vs,sq H1 M1 s,by show vs.length=(numbered us).length;rw [kC,r.length]⟩⟩
 obtain ⟨w,e1,rfl⟩:=kA e
 obtain ⟨v,e2,ru⟩:=r.get e1
 refine ⟨⟨vs,v,sq H1 M1 s,e2⟩,fun x H2 y=>?_⟩
 obtain ⟨p,v',y,hp,rfl,rfl⟩:=y
 have:=y vs (sq _ M1 s)
 rw [e2] at this;cases this
 have st:=aS.laid (o:=.tup [.int i,v]) rm hp
 have rr:aK K H1 M1 [.int i,w] [.int i,v]:=by
  simp only [aK]
  exact ⟨_,_,rfl,eJ,_,_,rfl,ru.stp s,rfl⟩
 exact ⟨st,rm.laid hp,xP (rm.no hp) cT (rr.stp st)⟩
def nV (ta:UA):UI:=fun τ M R=>ta τ M fun us M1=>match us with
 | [.tup us]=>R ⟨none,numbered us⟩ M1
 | _=>False
theorem Jj {K:PySem.W.Frag} {ta:TA} {ta':UA} (h:kE K ta ta'):nQ K (Fd false K ta) (nV ta'):=fun σ τ H M R' rs rm q R c=>h σ τ H M _ rs rm q _ fun us vs M1 H1 s1 rm1 ru h1=>by
 split at h1
 ·rename_i xs
  obtain ⟨v,rfl,a⟩:=ru.one
  simp only [aJ] at a
  obtain ⟨a,vs,rfl,m,r⟩:=a
  refine ⟨a,rfl,⟨vs,?_⟩,c _ _ M1 H1 s1 rm1 (AX (HX m) r) h1⟩
  exact .inl (.inl m.2)
 ·exact h1.elim
theorem o9 {D:Dat} {elts:List Expr} {kk:Nat} {tpos:Pos} {a:Expr} {p pos:Pos} {ta:UA} (hm:D.mg "enumerate"=none) (ha:lZ D [a] ta) (hg:D.sc.names.lookup ("enumerate":Str)=some .globalImplicit:=by rfl) (hs:∀ env,starEach [a] env=[(false,eval a env)]:=by intro _;rfl):rW D (.Tuple elts kk tpos) (.Call (.Name "enumerate" p) [a] [] pos) (nV ta):=by
 obtain ⟨_,q,s⟩:=ha
 exact ⟨_,fun X h=>h.K ▸ Eu (by show X.env.scope.names.lookup _=_;rw [h.sc];exact hg) (by rw [h.mg];exact hm) (q X h) (hs _),Jj s⟩
def lW (ta:UA):UI:=fun τ M R=>ta τ M fun us M1=>match us with
 | [.lst us]=>R ⟨none,numbered us⟩ M1
 | _=>False
theorem Ho {K:PySem.W.Frag} {ta:TA} {ta':UA} (h:kE K ta ta'):nQ K (Fd true K ta) (lW ta'):=fun σ τ H M R' rs rm q R c=>h σ τ H M _ rs rm q _ fun us vs M1 H1 s1 rm1 ru h1=>by
 split at h1
 ·rename_i xs
  obtain ⟨v,rfl,a⟩:=ru.one
  simp only [aJ] at a
  obtain ⟨a,vs,rfl,m,r⟩:=a
  refine ⟨a,rfl,⟨vs,?_⟩,c _ _ M1 H1 s1 rm1 (AX (IB m) r) h1⟩
  rcases m with ⟨_,m⟩ | k
  ·exact .inl m
  ·exact .inr k
 ·exact h1.elim
theorem Bn {D:Dat} {elts:List Expr} {kk:Nat} {tpos:Pos} {a:Expr} {p pos:Pos} {ta:UA} (hm:D.mg "enumerate"=none) (ha:lZ D [a] ta) (hg:D.sc.names.lookup ("enumerate":Str)=some .globalImplicit:=by rfl) (hs:∀ env,starEach [a] env=[(false,eval a env)]:=by intro _;rfl):rW D (.Tuple elts kk tpos) (.Call (.Name "enumerate" p) [a] [] pos) (lW ta):=by
 obtain ⟨_,q,s⟩:=ha
 exact ⟨_,fun X h=>h.K ▸ Eu (by show X.env.scope.names.lookup _=_;rw [h.sc];exact hg) (by rw [h.mg];exact hm) (q X h) (hs _),Ho s⟩
end U2
namespace U2
open PySem PySem.Spec PyProof.Rows L2
mutual
def iB (K:PySem.W.Frag) (H:Hp):PyData->V->Prop
 | .none,v=>v=.non
 | .bool b,v=>v=.bl b
 | .int i,v=>v=.int i
 | .str z,v=>v=.str z
 | .list ds,v=>∃ a xs,v=.ref a/\dY K H a xs/\hX K H ds xs
 | .tuple ds,v=>∃ a xs,v=.ref a/\eW K H a xs/\hX K H ds xs
 | .dict _,_=>False
def hX (K:PySem.W.Frag) (H:Hp):List PyData->List V->Prop
 | [],vs=>vs=[]
 | d :: ds,vs=>∃ v vs',vs=v :: vs'/\iB K H d v/\hX K H ds vs'
end
mutual
theorem iB.reads {X:Cx} {pins:List (Addr × Obj)} {σ:L2.St} {H:Hp} {s:Shared} (I:L2.Inv X pins σ H s):∀ {d:PyData} {v:V} {u:Value},iB X.K H d v->RelV v u->∃ as,Reads s.heap u d as
 | .none,v,u,h,r=>by simp only [iB] at h;subst h;cases r;exact ⟨_,.none⟩
 | .bool b,v,u,h,r=>by simp only [iB] at h;subst h;cases r;exact ⟨_,.bool b⟩
 | .int i,v,u,h,r=>by simp only [iB] at h;subst h;obtain ⟨t,rfl⟩:=r;exact ⟨_,.int i t⟩
 | .str z,v,u,h,r=>by simp only [iB] at h;subst h;obtain ⟨t,rfl⟩:=r;exact ⟨_,.str z t⟩
 | .list ds,v,u,h,r=>by
  simp only [iB] at h
  obtain ⟨a,xs,rfl,q,hs⟩:=h
  cases r
  obtain ⟨its,rv,p,hz⟩:=I.list q
  obtain ⟨as,ra⟩:=hX.reads I hs rv
  obtain ⟨o,h1,h2,n,h3⟩:=p.isList
  exact ⟨_,.list h1 h2 h3 (by simpa using ra)⟩
 | .tuple ds,v,u,h,r=>by
  simp only [iB] at h
  obtain ⟨a,xs,rfl,q,hs⟩:=h
  cases r
  obtain ⟨its,rv,p,hz⟩:=I.tuple q
  obtain ⟨as,ra⟩:=hX.reads I hs rv
  obtain ⟨o,h1,h2,n,h3⟩:=(show s.heap.IsTuple a its.toArray from p)
  exact ⟨_,.tuple h1 h2 h3 (by simpa using ra)⟩
 | .dict _,v,u,h,r=>by simp only [iB] at h
theorem hX.reads {X:Cx} {pins:List (Addr × Obj)} {σ:L2.St} {H:Hp} {s:Shared} (I:L2.Inv X pins σ H s):∀ {ds:List PyData} {vs:List V} {us:List Value},hX X.K H ds vs->Vals vs us->∃ as,ReadsAll s.heap us ds as
 | [],vs,us,h,r=>by simp only [hX] at h;subst h;cases r;exact ⟨_,.nil⟩
 | d :: ds,vs,us,h,r=>by
  simp only [hX] at h
  obtain ⟨v,vs',rfl,h1,h2⟩:=h
  cases r with
  | cons r rr =>
   obtain ⟨as,ra⟩:=iB.reads I h1 r
   obtain ⟨bs,rb⟩:=hX.reads I h2 rr
   exact ⟨_,.cons ra rb⟩
end
def KD (K:PySem.W.Frag) (neg:Bool):R2:=fun x y H Q=>∃ d d',iB K H d x/\iB K H d' y/\d.canLay0=true/\d'.canLay0=true/\min d.depth d'.depth<=64/\Q (.bl (if neg then !PyData.eqv d d' else PyData.eqv d d')) H
theorem Ox {X:Cx} {k:Nat} (hr:eN k X.A):dD X (compareOp .Eq) (KD X.K false):=by
 intro pins s σ H x y v u Q I rx ry h
 obtain ⟨d,d',h1,h2,c1,c2,hd,q⟩:=h
 obtain ⟨as,ra⟩:=h1.reads I rx
 obtain ⟨bs,rb⟩:=h2.reads I ry
 exact SeqAt.compareEq_reads ra rb c1 c2 (by have:=hr.units;omega) ⟨.bl _,H,I,rfl,q⟩
theorem OS {X:Cx} {k:Nat} (hr:eN k X.A):dD X (compareOp .NotEq) (KD X.K true):=by
 intro pins s σ H x y v u Q I rx ry h
 obtain ⟨d,d',h1,h2,c1,c2,hd,q⟩:=h
 obtain ⟨as,ra⟩:=h1.reads I rx
 obtain ⟨bs,rb⟩:=h2.reads I ry
 exact SeqAt.compareNe_reads ra rb c1 c2 (by have:=hr.units;omega) ⟨.bl _,H,I,rfl,q⟩
mutual
def toD:U->Option PyData
 | .non=>some .none
 | .bl b=>some (.bool b)
 | .int i=>some (.int i)
 | .str z=>some (.str z)
 | .tup us=>(eD us).map .tuple
 | .lst us=>(eD us).map .list
 | .ty _=>none
 | .ref _=>none
 | .dic _ _ _=>none
def eD:List U->Option (List PyData)
 | []=>some []
 | u :: us=>match toD u,eD us with
  | some d,some ds=>some (d :: ds)
  | _,_=>none
end
def nN (M:aF) (u:U):Option PyData:=match u with
 | .ref a=>match M a with
  | some (.lst us)=>(eD us).map .list
  | _=>none
 | u=>toD u
mutual
theorem D3 {K:PySem.W.Frag} {H:Hp} {M:aF}:∀ {u:U} {v:V} {d:PyData},aJ K H M u v->toD u=some d->iB K H d v
 | .non,v,d,r,e=>by simp only [toD,Option.some.injEq] at e;subst e;simp only [iB];exact r.non
 | .bl b,v,d,r,e=>by simp only [toD,Option.some.injEq] at e;subst e;simp only [iB];exact r.bl
 | .int i,v,d,r,e=>by simp only [toD,Option.some.injEq] at e;subst e;simp only [iB];exact r.int
 | .str i,v,d,r,e=>by simp only [toD,Option.some.injEq] at e;subst e;simp only [iB];exact r.str
 | .tup us,v,d,r,e=>by
  simp only [toD] at e
  cases e2:eD us with
  | none=>rw [e2] at e;simp at e
  | some ds =>
   rw [e2] at e;simp at e;subst e
   obtain ⟨a,vs,rfl,q,rs⟩:=r.tup
   simp only [iB]
   exact ⟨a,vs,rfl,q,uK rs e2⟩
 | .lst us,v,d,r,e=>by
  simp only [toD] at e
  cases e2:eD us with
  | none=>rw [e2] at e;simp at e
  | some ds =>
   rw [e2] at e;simp at e;subst e
   obtain ⟨a,vs,rfl,q,rs⟩:=r.lst
   simp only [iB]
   exact ⟨a,vs,rfl,q,uK rs e2⟩
 | .ty _,v,d,r,e=>by simp [toD] at e
 | .ref _,v,d,r,e=>by simp [toD] at e
 | .dic _ _ _,v,d,r,e=>by simp [toD] at e
theorem uK {K:PySem.W.Frag} {H:Hp} {M:aF}:∀ {us:List U} {vs:List V} {ds:List PyData},aK K H M us vs->eD us=some ds->hX K H ds vs
 | [],vs,ds,r,e=>by simp only [eD,Option.some.injEq] at e;subst e;simp only [hX];exact r.inv_nil
 | u :: us,vs,ds,r,e=>by
  obtain ⟨v,vs',rfl,a,b⟩:=r.inv_cons
  simp only [eD] at e
  cases e1:toD u with
  | none=>rw [e1] at e;simp at e
  | some d =>
   cases e2:eD us with
   | none=>rw [e1,e2] at e;simp at e
   | some ds' =>
    rw [e1,e2] at e;simp at e;subst e
    simp only [hX]
    exact ⟨v,vs',rfl,D3 a e1,uK b e2⟩
end
theorem C0 {K:PySem.W.Frag} {H:Hp} {M:aF} {u:U} {v:V} {d:PyData} (rm:RelM K H M) (r:aJ K H M u v) (e:nN M u=some d):iB K H d v:=by
 cases u with
 | ref a =>
  simp only [nN] at e
  split at e
  ·rename_i us hM
   cases e2:eD us with
   | none=>rw [e2] at e;simp at e
   | some ds =>
    rw [e2] at e;simp at e;subst e
    obtain ⟨vs,h1,rs⟩:=rm a _ hM
    cases r.ref
    simp only [iB]
    exact ⟨a,vs,rfl,.inl (.inl h1),uK rs e2⟩
  ·cases e
 | _=>exact D3 r (by simpa only [nN] using e)
def Cp (neg:Bool):dR:=fun x y M Q=>∃ d d',nN M x=some d/\nN M y=some d'/\d.canLay0=true/\d'.canLay0=true/\min d.depth d'.depth<=64/\Q (.bl (if neg then !PyData.eqv d d' else PyData.eqv d d')) M
theorem Eg {K:PySem.W.Frag} {neg:Bool}:dS K (KD K neg) (Cp neg):=fun x y u w H M Q' rm ru rw h Q c=>by
 obtain ⟨d,d',e1,e2,c1,c2,hd,q⟩:=h
 exact ⟨d,d',C0 rm ru e1,C0 rm rw e2,c1,c2,hd,c.here rm dI q⟩
variable {D:Dat}
def lG:U->Bool
 | .non=>true
 | .bl _=>true
 | .int _=>true
 | .str _=>true
 | _=>false
def uV:U->U->Bool
 | .non,.non=>true
 | .bl a,.bl b=>a == b
 | .bl a,.int j=>(if a then 1 else 0) == j
 | .int i,.bl b=>i == (if b then 1 else 0)
 | .int i,.int j=>i == j
 | .str x,.str y=>x == y
 | _,_=>false
def items (M:aF):U->Option (List U)
 | .tup us=>some us
 | .lst us=>some us
 | .ref a=>match M a with
  | some (.lst us)=>some us
  | _=>none
 | _=>none
def vC (neg:Bool):dR:=fun x y M Q=>match items M y with
 | some us=>lG x=true/\us.all lG=true/\Q (.bl (if neg then !us.any (fun u=>uV u x) else us.any (fun u=>uV u x))) M
 | none=>False
theorem BJ {K:PySem.W.Frag} {H:Hp} {M:aF} {u:U} {v:V} (r:aJ K H M u v) (f:lG u=true):kK v=true:=by
 cases u with
 | non=>cases r.non;rfl
 | bl b=>cases r.bl;rfl
 | int b=>cases r.int;rfl
 | str b=>cases r.str;rfl
 | _=>exact absurd (show false=true from f) Bool.false_ne_true
theorem MF {K:PySem.W.Frag} {H:Hp} {M:aF} {u w:U} {v x:V} (r:aJ K H M u v) (r':aJ K H M w x) (f:lG u=true) (f':lG w=true):qE v x=uV u w:=by
 cases u <;> (first | (cases r.non) | (cases r.bl) | (cases r.int) | (cases r.str) | exact absurd (show false=true from f) Bool.false_ne_true) <;> cases w <;>
  (first | (cases r'.non) | (cases r'.bl) | (cases r'.int) | (cases r'.str) | exact absurd (show false=true from f') Bool.false_ne_true) <;> rfl
theorem A8 {K:PySem.W.Frag} {H:Hp} {M:aF}:∀ {us:List U} {vs:List V},aK K H M us vs->us.all lG=true->vs.all kK=true
 | [],vs,r,_=>by cases r.inv_nil;rfl
 | u :: us,vs,r,f=>by
  obtain ⟨v,vs',rfl,a,b⟩:=r.inv_cons
  rw [List.all_cons,Bool.and_eq_true] at f ⊢
  exact ⟨BJ a f.1,A8 b f.2⟩
theorem Ea {K:PySem.W.Frag} {H:Hp} {M:aF} {w:U} {x:V} (r':aJ K H M w x) (f':lG w=true):∀ {us:List U} {vs:List V},aK K H M us vs->us.all lG=true->LA x vs=us.any fun u=>uV u w
 | [],vs,r,_=>by cases r.inv_nil;rfl
 | u :: us,vs,r,f=>by
  obtain ⟨v,vs',rfl,a,b⟩:=r.inv_cons
  rw [List.all_cons,Bool.and_eq_true] at f
  have:=Ea r' f' b f.2
  unfold LA at this ⊢
  rw [List.any_cons,List.any_cons,this,MF a r' f.1 f']
theorem Hj {K:PySem.W.Frag} {H:Hp} {M:aF} {u:U} {v:V} {us:List U} (rm:RelM K H M) (r:aJ K H M u v) (e:items M u=some us):∃ p xs,v=.ref p/\(dY K H p xs\/eW K H p xs)/\aK K H M us xs:=by
 cases u with
 | tup us'=>cases e;obtain ⟨a,vs,rfl,q,rs⟩:=r.tup;exact ⟨a,vs,rfl,.inr q,rs⟩
 | lst us'=>cases e;obtain ⟨a,vs,rfl,q,rs⟩:=r.lst;exact ⟨a,vs,rfl,.inl q,rs⟩
 | ref a =>
  simp only [items] at e
  split at e
  ·rename_i us' hM
   cases e
   obtain ⟨vs,h1,rs⟩:=rm a _ hM
   exact ⟨a,vs,r.ref,.inl (.inl (.inl h1)),rs⟩
  ·cases e
 | _=>cases e
theorem HZ {K:PySem.W.Frag} {neg:Bool}:dS K (OP K neg) (vC neg):=fun x y u w H M Q' rm ru rw h Q c=>by
 unfold vC at h
 split at h
 ·rename_i us e
  obtain ⟨f,fs,q⟩:=h
  obtain ⟨p,xs,rfl,hs,rs⟩:=Hj rm rw e
  refine ⟨p,xs,rfl,hs,BJ ru f,A8 rs fs,?_⟩
  rw [Ea ru f rs fs]
  exact c.here rm dI q
 ·exact h.elim
theorem OA:lP D .In (vC false):=⟨⟨_,fun X h=>h.K ▸ HV,HZ⟩⟩
theorem ME:lP D .NotIn (vC true):=⟨⟨_,fun X h=>h.K ▸ De,HZ⟩⟩
def sX (neg:Bool):dR:=fun x y M Q=>match HS x y with
 | some b=>Q (.bl (if neg then !b else b)) M
 | none=>Cp neg x y M Q
theorem eK:lP D .Eq (sX false):=⟨⟨_,fun X h=>h.K ▸ Qa.or (Ox h.room),fun x y u w H M Q' rm ru rw h Q c=>by
 unfold sX at h
 split at h
 ·rename_i b e
  obtain ⟨h1,h2⟩:=EL ru rw e
  exact .inl ⟨h1,c.here rm (by rw [h2];exact dI) h⟩
 ·exact .inr (Eg x y u w H M Q' rm ru rw h Q c)⟩⟩
theorem vW:lP D .NotEq (sX true):=⟨⟨_,fun X h=>h.K ▸ Qn.or (OS h.room),fun x y u w H M Q' rm ru rw h Q c=>by
 unfold sX at h
 split at h
 ·rename_i b e
  obtain ⟨h1,h2⟩:=EL ru rw e
  exact .inl ⟨h1,c.here rm (by rw [h2];exact dI) h⟩
 ·exact .inr (Eg x y u w H M Q' rm ru rw h Q c)⟩⟩
end U2
namespace U2
open PySem PySem.Spec PyProof.Rows L2
structure Zp (z TI TO i1 i2:Addr) (f1 f2:List Addr):Prop where
 TIz:TI≠z
 TOz:TO≠z
 i1z:i1≠z
 i2z:i2≠z
 TITO:TI≠TO
 TIi1:TI≠i1
 TIi2:TI≠i2
 TOi1:TO≠i1
 TOi2:TO≠i2
 i12:i1≠i2
 zf1:z ∉ f1
 zf2:z ∉ f2
 Tf1:TO ∉ f1
 Tf2:TO ∉ f2
 if2:i1 ∉ f2
 if1:i2 ∉ f1
theorem Draws.same {prog:Program} {w:World} {A:Around} {it:Addr} {fp:List Addr} {n:Nat} {P:Nat->Value->Prop} {St:Nat->Heap->Prop} (D:Draws prog w A it fp n P St) {i:Nat} {h h':Heap} {c:Addr} (st:St i h) (sb:Heap.ExtBut c h h') (hc:c ∉ fp):St i h' :=
 D.frame _ _ _ st fun b hb o e=>sb b o (fun q=>hc (q ▸ hb)) e
section
variable {prog:Program} {w:World} {A:Around} {E:Value->Shared->Prop} {s:Shared} {z TI TO i1 i2:Addr} {f1 f2:List Addr} {n1 n2:Nat} {P1 P2:Nat->Value->Prop} {S1 S2:Nat->Heap->Prop} {i:Nat} {a b:Value}
theorem JF (Z:Zp z TI TO i1 i2 f1 f2) (D1:Draws prog w A i1 f1 n1 P1 S1) (D2:Draws prog w A i2 f2 n2 P2 S2) {Q:Value->Shared->Prop}
  (hz:IsZip s.heap z TI TO .none) (hTI:IsPair s.heap TI (.ref i1) (.ref i2)) (hTO:IsPair s.heap TO a b) (h1:S1 i s.heap) (h2:S2 i s.heap) (l1:i < n1) (l2:i < n2)
  (hQ:∀ x y h' tk,P1 i x->P2 i y->IsZip h' z TI TO (rawInt s.heap.objs.size)->IsPair h' TO x y->S1 (i + 1) h'->S2 (i + 1) h'->IsPair h' s.heap.objs.size x y ->
   (∀ c o,c≠z->c≠TO->c≠i1->c≠i2->s.heap.get? c=some o->h'.get? c=some o)->Q (.ref s.heap.objs.size) { s with heap:=h',toks:=tk }) :
  wpAny (model prog w) A (Builtin.«zip.__next__» ⟨[.ref z],[]⟩) (fun fin s'=>∃ v,fin=.done (.ret v)/\Q v s') E s:=by
 show wpAny _ _ (field (.ref z) 2 >>= _) _ _ _
 refine wpAny_bind (wpAny_field hz rfl (x:=.bool false) rfl ?_)
 show wpAny _ _ (field (.ref z) 3 >>= _) _ _ _
 refine wpAny_bind (wpAny_field hz rfl (x:=.ref TI) rfl ?_)
 refine wpAny_bind (wpAny_seqItems hTI rfl ?_)
 show wpAny _ _ (Builtin.SmallTypes.ownedTupleIsFree (.ref z) >>= _) _ _ _
 refine wpAny_bind ?_
 unfold Builtin.SmallTypes.ownedTupleIsFree
 refine wpAny_bind (wpAny_field hz rfl (x:=.none) rfl (wpAny_pure ?_))
 simp only [if_true]
 refine wpAny_bind (wpAny_rule ?_)
 refine wpAny_bind (wpAny_field hz rfl (x:=.ref TO) rfl ?_)
 refine wpAny_bind (wpAny_setField_rec hz (by simp) fun g1 hz1 hs1=>?_)
 replace hz1:IsZip g1 z TI TO .ellipsis:=hz1
 refine wpAny_bind ?_
 simp only [List.zipIdx_cons,List.zipIdx_nil,List.forIn_cons,List.forIn_nil]
 refine wpAny_bind (wpAny_bind (wpAny_onRaise ?_))
 show wpAny _ _ (Builtin.SmallTypes.nextOf (.ref i1) >>= _) _ _ _
 refine wpAny_bind (D1.item i _ _ _ l1 (Draws.same D1 h1 hs1.extBut Z.zf1) fun x g2 tk2 px st2 hs2=>wpAny_pure ?_)
 have hTO2:IsPair g2 TO a b:=hs2.extBut _ _ Z.TOi1 (hs1.extBut _ _ Z.TOz hTO)
 refine wpAny_bind (wpAny_seqItems hTO2 rfl ?_)
 refine wpAny_bind (wpAny_updateSeq_pair hTO2 fun g3 hTO3 hs3=>?_)
 replace hTO3:IsPair g3 TO x b:=hTO3
 refine wpAny_bind (wpAny_letGo (wpAny_pure ?_))
 refine wpAny_bind (wpAny_bind (wpAny_onRaise ?_))
 show wpAny _ _ (Builtin.SmallTypes.nextOf (.ref i2) >>= _) _ _ _
 refine wpAny_bind (D2.item i _ _ _ l2 (Draws.same D2 (Draws.same D2 (Draws.same D2 h2 hs1.extBut Z.zf2) hs2.extBut Z.if2) hs3.extBut Z.Tf2) fun y g4 tk4 py st4 hs4=>wpAny_pure ?_)
 have hTO4:IsPair g4 TO x b:=hs4.extBut _ _ Z.TOi2 hTO3
 refine wpAny_bind (wpAny_seqItems hTO4 rfl ?_)
 refine wpAny_bind (wpAny_updateSeq_pair hTO4 fun g5 hTO5 hs5=>?_)
 replace hTO5:IsPair g5 TO x y:=hTO5
 refine wpAny_bind (wpAny_letGo (wpAny_pure (wpAny_pure ?_)))
 refine wpAny_bind (wpAny_seqItems hTO5 rfl ?_)
 refine wpAny_bind (wpAny_newTuple ?_)
 have hsz:g5.objs.size=s.heap.objs.size:=by rw [hs5.1,hs4.1,hs3.1,hs2.1,hs1.1]
 have hz5:IsZip g5 z TI TO .ellipsis:=hs5.extBut _ _ Z.TOz.symm (hs4.extBut _ _ Z.i2z.symm (hs3.extBut _ _ Z.TOz.symm (hs2.extBut _ _ Z.i1z.symm hz1)))
 have hk5:∀ c o,c≠z->c≠TO->c≠i1->c≠i2->s.heap.get? c=some o->g5.get? c=some o:=fun c o c1 c2 c3 c4 e =>
  hs5.extBut _ _ c2 (hs4.extBut _ _ c4 (hs3.extBut _ _ c2 (hs2.extBut _ _ c3 (hs1.extBut _ _ c1 e))))
 have h15:S1 (i + 1) g5:=Draws.same D1 (Draws.same D1 (Draws.same D1 st2 hs3.extBut Z.Tf1) hs4.extBut Z.if1) hs5.extBut Z.Tf1
 have h25:S2 (i + 1) g5:=Draws.same D2 st4 hs5.extBut Z.Tf2
 have hzlt:z < g5.objs.size:=Heap.lt_size hz5
 show wpAny _ _ (Builtin.SmallTypes.ownedTupleHandOut (.ref z) (.ref g5.objs.size) >>= _) _ _ _
 refine wpAny_bind ?_
 unfold Builtin.SmallTypes.ownedTupleHandOut
 have hz6:IsZip (g5.push { cls:=.type "tuple",data:=.seq #[x,y] }) z TI TO .ellipsis:=Heap.get?_push_of_some _ hz5
 refine wpAny_bind (wpAny_setField_rec hz6 (by simp) fun g7 hz7 hs7=>?_)
 replace hz7:IsZip g7 z TI TO (rawInt g5.objs.size):=hz7
 refine wpAny_setField_rec hz7 (by simp) fun g8 hz8 hs8=>?_
 replace hz8:IsZip g8 z TI TO (rawInt g5.objs.size):=hz8
 have up:∀ c o,c≠z->g5.get? c=some o->g8.get? c=some o:=fun c o c1 e=>hs8.extBut _ _ c1 (hs7.extBut _ _ c1 (Heap.get?_push_of_some _ e))
 have hT8:IsPair g8 g5.objs.size x y:=hs8.extBut _ _ (Nat.ne_of_gt hzlt) (hs7.extBut _ _ (Nat.ne_of_gt hzlt) (Heap.get?_push_size _ rfl))
 rw [hsz] at hz8 hT8
 refine wpAny_pure ⟨_,rfl,?_⟩
 show Q (.ref g5.objs.size) _
 rw [hsz]
 exact hQ x y g8 _ px py hz8 (up _ _ Z.TOz hTO5) (D1.frame _ _ _ h15 fun b hb o e=>up b o (fun q=>Z.zf1 (q ▸ hb)) e) (D2.frame _ _ _ h25 fun b hb o e=>up b o (fun q=>Z.zf2 (q ▸ hb)) e) hT8 fun c o c1 c2 c3 c4 e=>up c o c1 (hk5 c o c1 c2 c3 c4 e)
theorem Nd (Z:Zp z TI TO i1 i2 f1 f2) (D1:Draws prog w A i1 f1 n1 P1 S1) (D2:Draws prog w A i2 f2 n2 P2 S2) {Q:Fin->Shared->Prop}
  (hz:IsZip s.heap z TI TO .none) (hTI:IsPair s.heap TI (.ref i1) (.ref i2)) (hTO:IsPair s.heap TO a b) (h1:S1 i s.heap) (h2:S2 i s.heap) (l1:i<=n1) (hi:i=min n1 n2)
  (hE:∀ h' e tk,(∀ c o,c≠z->c≠TO->c≠i1->c≠i2->s.heap.get? c=some o->h'.get? c=some o)->(∃ o,h'.get? e=some o/\o.cls=.type "StopIteration")->E (.ref e) { s with heap:=h',toks:=tk }) :
  wpAny (model prog w) A (Builtin.«zip.__next__» ⟨[.ref z],[]⟩) Q E s:=by
 show wpAny _ _ (field (.ref z) 2 >>= _) _ _ _
 refine wpAny_bind (wpAny_field hz rfl (x:=.bool false) rfl ?_)
 show wpAny _ _ (field (.ref z) 3 >>= _) _ _ _
 refine wpAny_bind (wpAny_field hz rfl (x:=.ref TI) rfl ?_)
 refine wpAny_bind (wpAny_seqItems hTI rfl ?_)
 show wpAny _ _ (Builtin.SmallTypes.ownedTupleIsFree (.ref z) >>= _) _ _ _
 refine wpAny_bind ?_
 unfold Builtin.SmallTypes.ownedTupleIsFree
 refine wpAny_bind (wpAny_field hz rfl (x:=.none) rfl (wpAny_pure ?_))
 simp only [if_true]
 refine wpAny_bind (wpAny_rule ?_)
 refine wpAny_bind (wpAny_field hz rfl (x:=.ref TO) rfl ?_)
 refine wpAny_bind (wpAny_setField_rec hz (by simp) fun g1 hz1 hs1=>?_)
 replace hz1:IsZip g1 z TI TO .ellipsis:=hz1
 refine wpAny_bind ?_
 simp only [List.zipIdx_cons,List.zipIdx_nil,List.forIn_cons,List.forIn_nil]
 refine wpAny_bind (wpAny_bind (wpAny_onRaise ?_))
 show wpAny _ _ (Builtin.SmallTypes.nextOf (.ref i1) >>= _) _ _ _
 have hA:S1 i g1:=Draws.same D1 h1 hs1.extBut Z.zf1
 by_cases hlt:i < n1
 ·have hn2:i=n2:=by omega
  refine wpAny_bind (D1.item i _ _ _ hlt hA fun x g2 tk2 px st2 hs2=>wpAny_pure ?_)
  have hTO2:IsPair g2 TO a b:=hs2.extBut _ _ Z.TOi1 (hs1.extBut _ _ Z.TOz hTO)
  refine wpAny_bind (wpAny_seqItems hTO2 rfl ?_)
  refine wpAny_bind (wpAny_updateSeq_pair hTO2 fun g3 hTO3 hs3=>?_)
  refine wpAny_bind (wpAny_letGo (wpAny_pure ?_))
  refine wpAny_bind (wpAny_bind (wpAny_onRaise ?_))
  show wpAny _ _ (Builtin.SmallTypes.nextOf (.ref i2) >>= _) _ _ _
  refine wpAny_bind (D2.done _ _ _ (hn2 ▸ Draws.same D2 (Draws.same D2 (Draws.same D2 h2 hs1.extBut Z.zf2) hs2.extBut Z.if2) hs3.extBut Z.Tf2) fun g4 e hs4 he=>?_)
  obtain ⟨oe,hoe,hce⟩:=he
  have hz4:IsZip g4 z TI TO .ellipsis:=hs4 _ _ Z.i2z.symm (hs3.extBut _ _ Z.TOz.symm (hs2.extBut _ _ Z.i1z.symm hz1))
  have hez:e≠z:=fun x=>by subst x;rw [hz4] at hoe;cases hoe;simp at hce
  exact wpAny_setField_rec hz4 (by simp) fun g5 _ hs5=>hE g5 e _ (fun c o c1 c2 c3 c4 x=>hs5.extBut _ _ c1 (hs4 _ _ c4 (hs3.extBut _ _ c2 (hs2.extBut _ _ c3 (hs1.extBut _ _ c1 x))))) ⟨oe,hs5.extBut _ _ hez hoe,hce⟩
 ·have hn1:i=n1:=by omega
  refine wpAny_bind (D1.done _ _ _ (hn1 ▸ hA) fun g2 e hs2 he=>?_)
  obtain ⟨oe,hoe,hce⟩:=he
  have hz2:IsZip g2 z TI TO .ellipsis:=hs2 _ _ Z.i1z.symm hz1
  have hez:e≠z:=fun x=>by subst x;rw [hz2] at hoe;cases hoe;simp at hce
  exact wpAny_setField_rec hz2 (by simp) fun g3 _ hs3=>hE g3 e _ (fun c o c1 _ c3 _ x=>hs3.extBut _ _ c1 (hs2 _ _ c3 (hs1.extBut _ _ c1 x))) ⟨oe,hs3.extBut _ _ hez hoe,hce⟩
theorem Bq (Z:Zp z TI TO i1 i2 f1 f2) (D1:Draws prog w A.in1 i1 f1 n1 P1 S1) (D2:Draws prog w A.in1 i2 f2 n2 P2 S2) {Q:Option Value->Shared->Prop}
  (hz:IsZip s.heap z TI TO .none) (hTI:IsPair s.heap TI (.ref i1) (.ref i2)) (hTO:IsPair s.heap TO a b) (h1:S1 i s.heap) (h2:S2 i s.heap) (l1:i < n1) (l2:i < n2)
  (hQ:∀ x y h' tk,P1 i x->P2 i y->IsZip h' z TI TO (rawInt s.heap.objs.size)->IsPair h' TO x y->S1 (i + 1) h'->S2 (i + 1) h'->IsPair h' s.heap.objs.size x y ->
   (∀ c o,c≠z->c≠TO->c≠i1->c≠i2->s.heap.get? c=some o->h'.get? c=some o)->Q (some (.ref s.heap.objs.size)) { s with heap:=h',toks:=tk }) :
  wpAny (model prog w) A (pyNext (.ref z)) Q E s:=by
 have hT:s.TypeIs (.ref z) "zip":=⟨_,hz,rfl⟩
 unfold pyNext
 exact wpAny_bind (wpAny_attempt (wpAny_callSpecial?_slot (name:=Str.ofString "__next__") hT PySem.F.slot_zip_next
  (wpAny_call_entry PySem.F.slot_zip_next hT PySem.F.entry_zip_next
   (JF Z D1 D2 hz hTI hTO h1 h2 l1 l2 fun x y h' tk a1 a2 a3 a4 a5 a6 a7 a8=>wpAny_pure (hQ x y h' tk a1 a2 a3 a4 a5 a6 a7 a8)) (PySem.F.args_zip_next_1 _))))
theorem CI (Z:Zp z TI TO i1 i2 f1 f2) (D1:Draws prog w A.in1 i1 f1 n1 P1 S1) (D2:Draws prog w A.in1 i2 f2 n2 P2 S2) {Q:Option Value->Shared->Prop}
  (hz:IsZip s.heap z TI TO .none) (hTI:IsPair s.heap TI (.ref i1) (.ref i2)) (hTO:IsPair s.heap TO a b) (h1:S1 i s.heap) (h2:S2 i s.heap) (l1:i<=n1) (hi:i=min n1 n2)
  (hQ:∀ h' tk,(∀ c o,c≠z->c≠TO->c≠i1->c≠i2->s.heap.get? c=some o->h'.get? c=some o)->Q none { s with heap:=h',toks:=tk }):wpAny (model prog w) A (pyNext (.ref z)) Q E s:=by
 have hT:s.TypeIs (.ref z) "zip":=⟨_,hz,rfl⟩
 unfold pyNext
 refine wpAny_bind (wpAny_attempt (wpAny_callSpecial?_slot (name:=Str.ofString "__next__") hT PySem.F.slot_zip_next
  (wpAny_call_entry PySem.F.slot_zip_next hT PySem.F.entry_zip_next (Nd Z D1 D2 hz hTI hTO h1 h2 l1 hi fun h' e tk hk he=>?_) (PySem.F.args_zip_next_1 _))))
 obtain ⟨o,ho,hc⟩:=he
 refine wpAny_bind (wpAny_isInstance (T:="StopIteration") (b:=true) ⟨o,ho,hc⟩ isSubtype_stop ?_)
 exact wpAny_pure (hQ _ _ hk)
end
def NW (f g:Bool) (K:PySem.W.Frag) (a c:Addr):It :=
  ⟨fun i H=>∃ xs ys x y,nT f K H a xs/\nT g K H c ys/\xs[i]?=some x/\ys[i]?=some y,
   fun i H v H'=>∃ p x y,(∀ xs,nT f K H a xs->xs[i]?=some x)/\(∀ ys,nT g K H c ys->ys[i]?=some y)/\H p=none/\v=.ref p/\H'=upd H p (.tup [x,y]),
   fun i H=>∃ xs ys,nT f K H a xs/\nT g K H c ys/\i=min xs.length ys.length⟩
theorem LN {f g:Bool} {h:Heap} {z TI TO i1 i2 a c:Addr} {f0 u v:Value} {k1 k2:Nat} {xs ys:Array Value} (hz:IsZip h z TI TO f0) (q:TI≠TO/\i1≠i2/\TO≠a/\TO≠c) (hTI:IsPair h TI (.ref i1) (.ref i2)) (hTO:IsPair h TO u v)
  (h1:lS f h i1 a k1) (h2:lS g h i2 c k2) (ha:kP f h a xs) (hc:kP g h c ys):Zp z TI TO i1 i2 [i1,a] [i2,c]:=by
 have iz:=fun {r:Bool} {i x:Addr} {k:Nat} (p:lS r h i x k)=>let ⟨_,e,c,_⟩:=p.obj;k7 e hz c rfl (by cases r <;> decide)
 have az:=fun {r:Bool} {x:Addr} {xs:Array Value} (p:kP r h x xs)=>let ⟨_,_,e,c,_⟩:=p.obj;k7 e hz c rfl (by cases r <;> decide)
 have ti:=fun {r:Bool} {i x t:Addr} {u v:Value} {k:Nat} (w:IsPair h t u v) (p:lS r h i x k)=>let ⟨_,e,c,_⟩:=p.obj;k7 w e rfl c (by cases r <;> decide)
 refine ⟨k7 hTI hz rfl rfl (by decide),k7 hTO hz rfl rfl (by decide),iz h1,iz h2,q.1,ti hTI h1,ti hTI h2,ti hTO h1,ti hTO h2,q.2.1,?_,?_,?_,?_,?_,?_⟩ <;> simp only [List.mem_cons,List.not_mem_nil,or_false,not_or]
 ·exact ⟨(iz h1).symm,(az ha).symm⟩
 ·exact ⟨(iz h2).symm,(az hc).symm⟩
 ·exact ⟨ti hTO h1,q.2.2.1⟩
 ·exact ⟨ti hTO h2,q.2.2.2⟩
 ·exact ⟨q.2.1,(hc.ne h1).symm⟩
 ·exact ⟨q.2.1.symm,(ha.ne h2).symm⟩
theorem I0 {P:Program} {w:World} {K:PySem.W.Frag} {elts:List Expr} {kk:Nat} {pos:Pos} (f g:Bool) (a c z TI TO i1 i2:Addr) (q:TI≠TO/\i1≠i2/\TO≠a/\TO≠c) :
  Turn P w K (.Tuple elts kk pos) (NW f g K a c) [z,TI,TO,i1,i2] z (fun i h=>IsZip h z TI TO .none/\IsPair h TI (.ref i1) (.ref i2)/\(∃ u v,IsPair h TO u v)/\lS f h i1 a i/\lS g h i2 c i) where
 mem:=by simp
 obj:=fun i h st b hb=>by
  obtain ⟨hz,hTI,⟨u,v,hTO⟩,h1,h2⟩:=st
  obtain ⟨o1,e1,c1,d1⟩:=h1.obj
  obtain ⟨o2,e2,c2,d2⟩:=h2.obj
  have:b=z\/b=TI\/b=TO\/b=i1\/b=i2:=by simpa using hb
  rcases this with rfl | rfl | rfl | rfl | rfl
  ·exact ⟨_,hz,fun v x=>by
    have x':Data.fields _=Data.cell v:=x
    cases x'⟩
  ·exact ⟨_,hTI,fun v x=>by
    have x':Data.seq _ _=Data.cell v:=x
    cases x'⟩
  ·exact ⟨_,hTO,fun v x=>by
    have x':Data.seq _ _=Data.cell v:=x
    cases x'⟩
  ·exact ⟨_,e1,fun v x=>by rw [d1] at x;cases x⟩
  ·exact ⟨_,e2,fun v x=>by rw [d2] at x;cases x⟩
 keep:=fun i h h' st k=>let ⟨hz,hTI,⟨u,v,hTO⟩,h1,h2⟩:=st
  ⟨k z (by simp) _ hz,k TI (by simp) _ hTI,⟨u,v,k TO (by simp) _ hTO⟩,h1.at fun o e=>k i1 (by simp) o e,h2.at fun o e=>k i2 (by simp) o e⟩
 item:=by
  intro X hP hw hK hc i pins s σ H E I hf st hg
  subst hP hw hK
  obtain ⟨hz,hTI,⟨u,v,hTO⟩,h1,h2⟩:=st
  obtain ⟨xs,ys,x,y,hqx,hqy,hx,hy⟩:=hg
  obtain ⟨its,rv,p,_⟩:=yX I hqx
  obtain ⟨its',rv',p',_⟩:=yX I hqy
  obtain ⟨x',hu,ru⟩:=rv.get hx
  obtain ⟨y',hu',ru'⟩:=rv'.get hy
  have Z:=LN hz q hTI hTO h1 h2 p p'
  have n1:a≠i1:=p.ne h1
  have n2:c≠i2:=p'.ne h2
  have hd:X.A.in1.handled=none:=I.ok.hd hc
  have lt1:i < its.toArray.size:=by
   have:=(List.getElem?_eq_some_iff.mp hu).1
   simpa using this
  have lt2:i < its'.toArray.size:=by
   have:=(List.getElem?_eq_some_iff.mp hu').1
   simpa using this
  refine Bq Z (mQ f hd i1 a n1 its.toArray) (mQ g hd i2 c n2 its'.toArray) hz hTI hTO ⟨h1,p⟩ ⟨h2,p'⟩ lt1 lt2 fun x1 y1 h' tk px py hz' hTO' s1 s2 hT hk=>?_
  refine ⟨_,rfl,wpAny_letOwnedTupleGo_zip (s:={ s with heap:=h',toks:=tk }) hz' fun h'' hz'' hs''=>?_⟩
  have ex:x1=x':=by
   have h3:its[i]?=some x1:=by simpa using px
   rw [hu] at h3;exact (Option.some.inj h3).symm
  have ey:y1=y':=by
   have h3:its'[i]?=some y1:=by simpa using py
   rw [hu'] at h3;exact (Option.some.inj h3).symm
  subst ex ey
  have lt:∀ {b o},s.heap.get? b=some o->s.heap.objs.size≠b:=fun e=>Nat.ne_of_gt (Heap.lt_size e)
  have hTT:iS h'' s.heap.objs.size #[x1,y1]:=⟨_,hs''.extBut _ _ (lt hz) hT,rfl,rfl,_,rfl⟩
  refine ⟨.ref s.heap.objs.size,upd H s.heap.objs.size (.tup [x,y]),rC (s:=s) (h':=h'') (tk:=tk) (ch:=[z,TI,TO,i1,i2]) I hf (fun b o hb e=>?_) (Nat.le_refl _) ⟨by show 2<=sizeLine;decide,[x1,y1],.cons ru (.cons ru' .nil),hTT⟩,rfl,
   ⟨s.heap.objs.size,x,y,fun zs hz=>by rw [<- N6 I hqx hz];exact hx,fun zs hz=>by rw [<- N6 I hqy hz];exact hy,I.hok.fresh (Nat.le_refl _),rfl,rfl⟩,⟨hz'',?_,?_,?_,?_⟩,fun b hb=>?_⟩
  ·have hb':¬ (b=z\/b=TI\/b=TO\/b=i1\/b=i2):=by simpa using hb
   simp only [not_or] at hb'
   exact hs''.extBut _ _ hb'.1 (hk b o hb'.1 hb'.2.2.1 hb'.2.2.2.1 hb'.2.2.2.2 e)
  ·exact hs''.extBut _ _ Z.TIz (hk _ _ Z.TIz Z.TITO Z.TIi1 Z.TIi2 hTI)
  ·exact ⟨_,_,hs''.extBut _ _ Z.TOz hTO'⟩
  ·exact s1.1.at fun o e=>hs''.extBut _ _ Z.i1z e
  ·exact s2.1.at fun o e=>hs''.extBut _ _ Z.i2z e
  ·rw [bL (fun e=>?_)]
   ·exact (hf b hb).1
   ·have:b=z\/b=TI\/b=TO\/b=i1\/b=i2:=by simpa using hb
    obtain ⟨o1,e1,_⟩:=h1.obj
    obtain ⟨o2,e2,_⟩:=h2.obj
    rcases this with rfl | rfl | rfl | rfl | rfl
    ·exact lt hz e.symm
    ·exact lt hTI e.symm
    ·exact lt hTO e.symm
    ·exact lt e1 e.symm
    ·exact lt e2 e.symm
 done:=by
  intro X hP hw hK hc i pins s σ H E I hf st hg
  subst hP hw hK
  obtain ⟨hz,hTI,⟨u,v,hTO⟩,h1,h2⟩:=st
  obtain ⟨xs,ys,hqx,hqy,hi⟩:=hg
  obtain ⟨its,rv,p,_⟩:=yX I hqx
  obtain ⟨its',rv',p',_⟩:=yX I hqy
  have Z:=LN hz q hTI hTO h1 h2 p p'
  have n1:a≠i1:=p.ne h1
  have n2:c≠i2:=p'.ne h2
  have hd:X.A.in1.handled=none:=I.ok.hd hc
  have hi':i=min its.toArray.size its'.toArray.size:=by rw [List.size_toArray,List.size_toArray,<- rv.length,<- rv'.length];exact hi
  refine CI Z (mQ f hd i1 a n1 its.toArray) (mQ g hd i2 c n2 its'.toArray) hz hTI hTO ⟨h1,p⟩ ⟨h2,p'⟩ (by omega) hi' fun h' tk hk=>⟨rfl,?_⟩
  have kk:∀ b o,b ∉ [z,TI,TO,i1,i2]->s.heap.get? b=some o->h'.get? b=some o:=fun b o hb e=>by
   have hb':¬ (b=z\/b=TI\/b=TO\/b=i1\/b=i2):=by simpa using hb
   simp only [not_or] at hb'
   exact hk b o hb'.1 hb'.2.2.1 hb'.2.2.2.1 hb'.2.2.2.2 e
  have:=I.call' (ch:=[z,TI,TO,i1,i2]) (H':=H) (s':={ s with heap:=h',toks:=tk }) rfl ⟨fun b u q n hb hx=>kk b u hx q,fun b u q n hb hx=>⟨u.slots,kk b u hx q⟩,fun b u q n hx=>n,fun b u q hx=>⟨u,kk b u hx q⟩,fun b xs q=>q,fun b u xs q=>q,fun b ps q=>⟨#[],by rw [q];simp⟩⟩
   (fun a u e'=>?_) I.bare fun b hb=>⟨(hf b hb).2.2.2.1,(hf b hb).2.1,(hf b hb).2.2.2.2.1,(hf b hb).2.2.2.2.2⟩
  ·exact this
  ·refine (I.hok a u e').stay (fun b z hb q=>kk b z (fun hc=>?_) q) (fun _ q=>q) fun _ _ q=>q
   have hnone:=(hf b hc).1
   rcases hb with rfl | hb
   ·rw [hnone] at e';cases e'
   ·rw [hnone] at hb;cases hb
 self:=fun _ _ _ _ _ st h=>wpAny_pyIter_zip st.1 h
abbrev Lo (f:Bool) (h:Heap) (a:Addr):Heap:=h.push { cls:=.type (uU f),data:=.fields #[.ref a,.int 0 0] }
abbrev Lj (f g:Bool) (h:Heap) (a c:Addr):Heap:=(Lo f h a).push { cls:=.type (uU g),data:=.fields #[.ref c,.int 0 0] }
abbrev Ln (f g:Bool) (h:Heap) (a c:Addr):Heap:=(Lj f g h a c).push { cls:=.type "tuple",data:=.seq #[.ref h.objs.size,.ref (Lo f h a).objs.size] }
abbrev LP (f g:Bool) (h:Heap) (a c:Addr):Heap:=(Ln f g h a c).push { cls:=.type "tuple",data:=.seq #[.none,.none] }
abbrev D5 (f g:Bool) (h:Heap) (a c:Addr):Heap:=(LP f g h a c).push { cls:=.type "zip",data:=.fields #[.none,.bool false,.bool false,.ref (Lj f g h a c).objs.size,.ref (Ln f g h a c).objs.size] }
theorem kP.push {f:Bool} {h:Heap} {a:Addr} {xs:Array Value} (p:kP f h a xs) (o:Obj):kP f (h.push o) a xs:=by
 obtain ⟨o',n,e,c,d⟩:=p.obj
 cases f <;> exact ⟨o',Heap.get?_push_of_some _ e,c,n,d⟩
theorem G5 {prog:Program} {w:World} {A:Around} {E:Value->Shared->Prop} {s:Shared} {f:Bool} {l:Addr} {items:Array Value} {Q:Value->Shared->Prop} (hl:kP f s.heap l items)
  (hQ:Q (.ref s.heap.objs.size) { s with heap:=s.heap.push { cls:=.type (uU f),data:=.fields #[.ref l,.int 0 0] } }):wpAny (model prog w) A (pyIter (.ref l)) Q E s:=by
 cases f
 ·exact wpAny_pyIter_tuple hl hQ
 ·exact wpAny_pyIter_list hl hQ
theorem FX (f g:Bool) (a c:Addr) (xs ys:Array Value) :
  Meets (Builtin.«zip.__new__» ⟨[.type "zip",.ref a,.ref c],[]⟩) (fun _ R s=>kP f s.heap a xs/\kP g s.heap c ys /\
   R (.ok (.ret (.ref (LP f g s.heap a c).objs.size))) { s with heap:=D5 f g s.heap a c }) :=
 .of_wp fun prog w A R s h=>by
  obtain ⟨hp,g',d,tk,os⟩:=s;obtain ⟨h1,h2,h⟩:=h
  have hsub:=sub_zip
  have hL1:kP f (Shared.heap ⟨hp,g',d,tk,os⟩) a xs:=h1
  have hL2:kP g (Shared.heap ⟨hp.push { cls:=.type (uU f),data:=.fields #[.ref a,.int 0 0] },g',d,tk,os⟩) c ys:=h2.push _
  wp_walk using G5 hL1,G5 hL2
  exact ⟨_,rfl,h⟩
theorem Hd {f g:Bool} {prog:Program} {w:World} {A:Around} {E:Value->Shared->Prop} {s:Shared} {a c:Addr} {xs ys:Array Value} {Q:Value->Shared->Prop} (h1:kP f s.heap a xs) (h2:kP g s.heap c ys)
  (h:∀ h',IsZip h' (s.heap.objs.size + 4) (s.heap.objs.size + 2) (s.heap.objs.size + 3) .none->IsPair h' (s.heap.objs.size + 2) (.ref s.heap.objs.size) (.ref (s.heap.objs.size + 1)) ->
   IsPair h' (s.heap.objs.size + 3) .none .none->lS f h' s.heap.objs.size a 0->lS g h' (s.heap.objs.size + 1) c 0 ->
   (∀ b o,s.heap.get? b=some o->h'.get? b=some o)->Q (.ref (s.heap.objs.size + 4)) { s with heap:=h' }) :
  wpAny (model prog w) A (call (.type "zip") [.ref a,.ref c]) Q E s:=by
 refine callType_new PySem.F.called_zip (by decide) (PySem.F.typeCall_zip_2 _ _) (PySem.F.newCall_zip_2 _ _) (fun obj=>PySem.F.args_object_init_3 obj _ _) PySem.F.entry_zip_new
  (FX f g a c xs ys) ⟨h1,h2,?_⟩
 have z1:(Lo f s.heap a).objs.size=s.heap.objs.size + 1:=Heap.size_push ..
 have z2:(Lj f g s.heap a c).objs.size=s.heap.objs.size + 2:=by rw [Heap.size_push,z1]
 have z3:(Ln f g s.heap a c).objs.size=s.heap.objs.size + 3:=by rw [Heap.size_push,z2]
 have z4:(LP f g s.heap a c).objs.size=s.heap.objs.size + 4:=by rw [Heap.size_push,z3]
 have g5:(D5 f g s.heap a c).get? (LP f g s.heap a c).objs.size=some _:=Heap.get?_push_size _ rfl
 have g4:(D5 f g s.heap a c).get? (Ln f g s.heap a c).objs.size=some _:=Heap.get?_push_of_some _ (Heap.get?_push_size _ rfl)
 have g3:(D5 f g s.heap a c).get? (Lj f g s.heap a c).objs.size=some _:=Heap.get?_push_of_some _ (Heap.get?_push_of_some _ (Heap.get?_push_size _ rfl))
 have g2:(D5 f g s.heap a c).get? (Lo f s.heap a).objs.size=some _:=Heap.get?_push_of_some _ (Heap.get?_push_of_some _ (Heap.get?_push_of_some _ (Heap.get?_push_size _ rfl)))
 have g1:(D5 f g s.heap a c).get? s.heap.objs.size=some _:=Heap.get?_push_of_some _ (Heap.get?_push_of_some _ (Heap.get?_push_of_some _ (Heap.get?_push_of_some _ (Heap.get?_push_size _ rfl))))
 show _/\_
 rw [z2,z3,z4] at g5
 rw [z1,z2] at g3
 rw [z3] at g4
 rw [z1] at g2
 rw [z4]
 exact ⟨⟨_,g5,rfl⟩,h _ g5 g3 g4 (.of g1 rfl rfl) (.of g2 rfl rfl) fun b o x =>
  Heap.get?_push_of_some _ (Heap.get?_push_of_some _ (Heap.get?_push_of_some _ (Heap.get?_push_of_some _ (Heap.get?_push_of_some _ x))))⟩
def Jx (f g:Bool) (K:PySem.W.Frag) (ta:TA):TI:=fun σ H R=>ta σ H fun vs H1=>∃ a c,vs=[.ref a,.ref c]/\(∃ xs,nT f K H1 a xs)/\(∃ ys,nT g K H1 c ys)/\R (NW f g K a c) H1
theorem GP {f g:Bool} {X:Cx} {elts:List Expr} {kk:Nat} {tpos:Pos} {a b:Expr} {ta:TA} {p pos:Pos} (hg:Gl X "zip") (hm:X.mg "zip"=none) (ha:PA X [a,b] ta) (hs:starEach [a,b] X.env=[(false,eval a X.env),(false,eval b X.env)]) (hs2:starEach [b] X.env=[(false,eval b X.env)]) :
  PI X (.Tuple elts kk tpos) (.Call (.Name "zip" p) [a,b] [] pos) (Jx f g X.K ta):=by
 intro pins s σ H R I h
 refine Call_ (nK I hg hm boot_zip (PyProof.Rows.callWith_type1 (bE (ha pos pins s σ H _ I h) fun us s1 ⟨vs,H1,I1,r1,q1⟩=>?_) (by rw [hs,hs2]) (by rw [hs2];rfl)))
 obtain ⟨a,c,e,⟨xs,hq⟩,⟨ys,hq'⟩,q⟩:=q1
 subst e
 cases r1 with
 | cons r rr =>
  cases rr with
  | cons r' rr =>
   cases rr
   cases r
   cases r'
   obtain ⟨its,rv,p,hz⟩:=yX I1 hq
   obtain ⟨its',rv',p',hz'⟩:=yX I1 hq'
   have la:a < s1.heap.objs.size:=by obtain ⟨_,_,e,_⟩:=p.obj;exact Heap.lt_size e
   have lc:c < s1.heap.objs.size:=by obtain ⟨_,_,e,_⟩:=p'.obj;exact Heap.lt_size e
   refine Hd p p' fun h' hz hTI hTO h1 h2 hk=>?_
   refine wpAny_pyIter_zip (s:={ s1 with heap:=h' }) hz ?_
   have I2:L2.Inv X pins σ H1 { s1 with heap:=h',toks:=s1.toks }:=I1.kept hk
   refine ⟨_,_,_,_,H1,rfl,I2,I0 f g a c (s1.heap.objs.size + 4) (s1.heap.objs.size + 2) (s1.heap.objs.size + 3) s1.heap.objs.size (s1.heap.objs.size + 1) ⟨Nat.ne_of_lt (Nat.lt_succ_self _),Nat.ne_of_lt (Nat.lt_succ_self _),Nat.ne_of_gt (Nat.lt_of_lt_of_le la (Nat.le_add_right _ _)),Nat.ne_of_gt (Nat.lt_of_lt_of_le lc (Nat.le_add_right _ _))⟩,⟨hz,hTI,⟨_,_,hTO⟩,h1,h2⟩,fun b hb=>?_,q⟩
   have le:s1.heap.objs.size<=b:=by
    have:b=s1.heap.objs.size + 4\/b=s1.heap.objs.size + 2\/b=s1.heap.objs.size + 3\/b=s1.heap.objs.size\/b=s1.heap.objs.size + 1:=by simpa using hb
    rcases this with e | e | e | e | e <;> rw [e]
    ·exact Nat.le_add_right _ _
    ·exact Nat.le_add_right _ _
    ·exact Nat.le_add_right _ _
    ·exact Nat.le_refl _
    ·exact Nat.le_add_right _ _
   exact I1.fpOk le (I1.hok.fresh le)
def eR:List U->List U->List U
 | u :: us,w :: ws=>.tup [u,w] :: eR us ws
 | _,_=>[]
theorem yS:∀ us ws:List U,(eR us ws).length=min us.length ws.length
 | [],ws=>by simp [eR]
 | _ :: _,[]=>by simp [eR]
 | u :: us,w :: ws=>by simp only [eR,List.length_cons,yS us ws];omega
theorem yQ:∀ {us ws:List U} {i:Nat} {x:U},(eR us ws)[i]?=some x->∃ u w,us[i]?=some u/\ws[i]?=some w/\x=.tup [u,w]
 | [],ws,i,x,h=>by simp [eR] at h
 | _ :: _,[],i,x,h=>by simp [eR] at h
 | u :: us,w :: ws,0,x,h=>by simp [eR] at h;exact ⟨u,w,rfl,rfl,h.symm⟩
 | u :: us,w :: ws,i + 1,x,h=>by
  simp only [eR,List.getElem?_cons_succ] at h ⊢
  exact yQ h
theorem C1 {f g:Bool} {K:PySem.W.Frag} {a c:Addr} {us ws:List U} {vs xs:List V} {H:Hp} {M:aF} (m:Iy f K H M a vs) (m':Iy g K H M c xs) (r:aK K H M us vs) (r':aK K H M ws xs):Walk K (NW f g K a c) ⟨none,eR us ws⟩ H M:=by
 refine ⟨fun H1 M1 s rm _ i u e=>?_,fun H1 M1 s rm _=>⟨vs,xs,m _ _ s,m' _ _ s,by show (eR us ws).length=_;rw [yS,r.length,r'.length]⟩⟩
 obtain ⟨u,w,e1,e1',rfl⟩:=yQ e
 obtain ⟨v,e2,ru⟩:=r.get e1
 obtain ⟨x,e2',ru'⟩:=r'.get e1'
 refine ⟨⟨vs,xs,v,x,m _ _ s,m' _ _ s,e2,e2'⟩,fun y H2 y'=>?_⟩
 obtain ⟨p,v',x',y1,y2,hp,rfl,rfl⟩:=y'
 have:=y1 vs (m _ _ s)
 rw [e2] at this;cases this
 have:=y2 xs (m' _ _ s)
 rw [e2'] at this;cases this
 have st:=aS.laid (o:=.tup [v,x]) rm hp
 have rr:aK K H1 M1 [u,w] [v,x]:=by
  simp only [aK]
  exact ⟨_,_,rfl,ru.stp s,_,_,rfl,ru'.stp s,rfl⟩
 exact ⟨st,rm.laid hp,xP (rm.no hp) cT (rr.stp st)⟩
def t7 (ta:UA):UI:=fun τ M R=>ta τ M fun us M1=>match us with
 | [.tup us,.tup ws]=>R ⟨none,eR us ws⟩ M1
 | _=>False
theorem MT {K:PySem.W.Frag} {ta:TA} {ta':UA} (h:kE K ta ta'):nQ K (Jx false false K ta) (t7 ta'):=fun σ τ H M R' rs rm q R c=>h σ τ H M _ rs rm q _ fun us vs M1 H1 s1 rm1 ru h1=>by
 split at h1
 ·obtain ⟨v,vs',rfl,a,b⟩:=ru.inv_cons
  obtain ⟨v2,rfl,a2⟩:=b.one
  simp only [aJ] at a a2
  obtain ⟨a,vs,rfl,m,r⟩:=a
  obtain ⟨a',vs',rfl,m',r'⟩:=a2
  exact ⟨a,a',rfl,⟨vs,HX m _ _ (aS.refl _ _)⟩,⟨vs',HX m' _ _ (aS.refl _ _)⟩,c _ _ M1 H1 s1 rm1 (C1 (HX m) (HX m') r r') h1⟩
 ·exact h1.elim
theorem OG {D:Dat} {elts:List Expr} {kk:Nat} {tpos:Pos} {a b:Expr} {p pos:Pos} {ta:UA} (hm:D.mg "zip"=none) (ha:lZ D [a,b] ta) (hg:D.sc.names.lookup ("zip":Str)=some .globalImplicit:=by rfl) (hs:∀ env,starEach [a,b] env=[(false,eval a env),(false,eval b env)]:=by intro _;rfl) (hs2:∀ env,starEach [b] env=[(false,eval b env)]:=by intro _;rfl):rW D (.Tuple elts kk tpos) (.Call (.Name "zip" p) [a,b] [] pos) (t7 ta):=by
 obtain ⟨_,q,s⟩:=ha
 exact ⟨_,fun X h=>h.K ▸ GP (by show X.env.scope.names.lookup _=_;rw [h.sc];exact hg) (by rw [h.mg];exact hm) (q X h) (hs _) (hs2 _),MT s⟩
def fD (ta:UA):UI:=fun τ M R=>ta τ M fun us M1=>match us with
 | [.tup us,.lst ws]=>R ⟨none,eR us ws⟩ M1
 | _=>False
def u6 (ta:UA):UI:=fun τ M R=>ta τ M fun us M1=>match us with
 | [.lst us,.lst ws]=>R ⟨none,eR us ws⟩ M1
 | _=>False
theorem Hy {K:PySem.W.Frag} {ta:TA} {ta':UA} (h:kE K ta ta'):nQ K (Jx true true K ta) (u6 ta'):=fun σ τ H M R' rs rm q R c=>h σ τ H M _ rs rm q _ fun us vs M1 H1 s1 rm1 ru h1=>by
 split at h1
 ·obtain ⟨v,vs',rfl,a,b⟩:=ru.inv_cons
  obtain ⟨v2,rfl,a2⟩:=b.one
  simp only [aJ] at a a2
  obtain ⟨a,vs,rfl,m,r⟩:=a
  obtain ⟨a',vs',rfl,m',r'⟩:=a2
  exact ⟨a,a',rfl,⟨vs,IB m _ _ (aS.refl _ _)⟩,⟨vs',IB m' _ _ (aS.refl _ _)⟩,c _ _ M1 H1 s1 rm1 (C1 (IB m) (IB m') r r') h1⟩
 ·exact h1.elim
theorem Kb {D:Dat} {elts:List Expr} {kk:Nat} {tpos:Pos} {a b:Expr} {p pos:Pos} {ta:UA} (hm:D.mg "zip"=none) (ha:lZ D [a,b] ta) (hg:D.sc.names.lookup ("zip":Str)=some .globalImplicit:=by rfl) (hs:∀ env,starEach [a,b] env=[(false,eval a env),(false,eval b env)]:=by intro _;rfl) (hs2:∀ env,starEach [b] env=[(false,eval b env)]:=by intro _;rfl):rW D (.Tuple elts kk tpos) (.Call (.Name "zip" p) [a,b] [] pos) (u6 ta):=by
 obtain ⟨_,q,s⟩:=ha
 exact ⟨_,fun X h=>h.K ▸ GP (by show X.env.scope.names.lookup _=_;rw [h.sc];exact hg) (by rw [h.mg];exact hm) (q X h) (hs _) (hs2 _),Hy s⟩
end U2
namespace U2
open PySem PySem.Spec PyProof.Rows L2
theorem Bs (l:Addr) (items:Array Value) (n:Nat) (b:Addr) (items2:Array Value) (n2:Nat) (dd:Option Addr) (sl:Array (Option Value)) (hc0:¬(!items.isEmpty && Builtin.List.listTooLong (items.size + items2.size))=true) (hc1:items.size<=sizeLine) (hs2:items.size + items2.size<=sizeLine + 1) :
  Meets (Builtin.«list.extend» ⟨[.ref l,.ref b],[]⟩) (fun _ R s=>s.heap.get? l=some { cls:=.type "list",dict:=none,data:=.seq items n,slots:=#[] }/\s.heap.get? b=some { cls:=.type "list",dict:=dd,data:=.seq items2 n2,slots:=sl }/\R (.ok (.ret Value.none)) { s with heap:=s.heap.update l (Obj.mapSeq fun x=>x++items2),toks:=s.toks }) :=
 .of_wp fun prog w A R s h=>by
  obtain ⟨hp,g,d,tk,os⟩:=s;obtain ⟨hl,hb,h⟩:=h
  have f1:=PySem.AutoSeq1.idx_int;have f2:=PySem.AutoSeq1.sub_tuple_tuple;have f3:=PySem.AutoSeq1.sub_list_list;have f4:=PySem.AutoSeq1.sub_tuple_list;have f5:=PySem.AutoSeq1.sub_list_tuple
  have hz':(items++items2).size<=sizeLine + 1:=by rw [Array.size_append];exact hs2
  wp_walk using (wpAny_updateSeq hl rfl (hz:=hc1) (_hz':=hz')),wpAny_loadPart' hl,wpAny_loadPart' hb
  exact ⟨_,rfl,h⟩
theorem E3 {X:Cx}:PD X "list.extend" (CY X.K):=by
 intro pins s σ H x vs v us Q I rx rv h
 obtain ⟨l,b,xs,zs,rfl,rfl,hH,hB,hz,q⟩:=h
 cases rx
 obtain ⟨u,rfl,ru⟩:=rv.one
 cases ru
 obtain ⟨z,its,n,r,hl,e⟩:=I.lstM hH
 obtain ⟨its2,r2,⟨⟨oc,od,odt,osl⟩,n2,e2,hc,hd,hdt⟩,hl2⟩:=I.list hB
 have hc':oc=.type "list":=hc
 have hdt':odt=.seq its2.toArray n2:=hdt
 subst hc' hdt'
 have l2:=r2.length
 have hsz:its.toArray.size + its2.toArray.size<=sizeLine:=by rw [List.size_toArray,List.size_toArray];omega
 have hlong:¬ (!its.toArray.isEmpty && Builtin.List.listTooLong (its.toArray.size + its2.toArray.size))=true:=by
  rw [xG hsz,Bool.and_false]
  exact Bool.false_ne_true
 refine call_meets PySem.F.slot_list_extend ⟨_,e,rfl⟩ PySem.F.entry_list_extend (PySem.F.args_list_extend_2 _ _)
  (Bs l its.toArray n b its2.toArray n2 od osl hlong (by rw [List.size_toArray];omega) (by omega)) ⟨e,e2,?_⟩
 refine ⟨.non,_,I.lset (its':=its++its2) hH e (by simp) (r.append r2) ?_,rfl,q⟩
 rw [List.length_append]
 omega
variable {D:Dat} {o e:Expr} {ta:UE} {tas:UA} {pos:Pos}
theorem Bk {apos:Pos} (ho:bB D o ta) (ha:lZ D [e] tas) (hbase:∀ env,attributeBase o "extend" env (eval o env)=eval o env:=by intro _;rfl)
  (hfew:∀ env,((backTo pos (starEach [e] env)).all (fun x=>!x.1) && (backToKw pos (keywordEach [] env)).all (fun x=>x.1.isSome) && decide ([e].length + ([]:List Keyword).length + (if ([]:List Keyword).isEmpty then 0 else 1) < 30))=true:=by intro _;rfl)
  (hline:(apos.endLine == pos.line)=true:=by rfl) (hs:∀ env,starEach [e] env=[(false,eval e env)]:=by intro _;rfl):bB D (.Call (.Attribute o "extend" apos) [e] [] pos) (wQ jM ta tas):=by
 obtain ⟨_,p,s⟩:=ho;obtain ⟨_,q,r⟩:=ha
 refine ⟨_,fun X h=>?_,GH F7 s r⟩
 have:=K8 (cpos:=pos) (apos:=apos) PySem.F.plainAttrs_list PySem.F.slot_list_extend PySem.F.type_list_extend E3 (p X h) (q X h) (hbase _) (hfew _) hline (hs _) (by rfl)
 rw [h.K] at this
 exact this
end U2
namespace U2
open PySem PySem.Spec PyProof.Rows L2
def intsOf:List U->Option (List Int)
 | []=>some []
 | .int i :: us=>(intsOf us).map (i :: ·)
 | _ :: _=>none
theorem l5 {K:PySem.W.Frag} {H:Hp} {M:aF}:∀ {us:List U} {vs:List V} {xs:List Int},aK K H M us vs->intsOf us=some xs->vs=xs.map V.int
 | [],vs,xs,r,e=>by cases e;exact r.inv_nil
 | u :: us,vs,xs,r,e=>by
  obtain ⟨v,vs',rfl,a,b⟩:=r.inv_cons
  cases u with
  | int i =>
   simp only [intsOf] at e
   cases e2:intsOf us with
   | none=>rw [e2] at e;cases e
   | some ys=>rw [e2] at e;cases e;rw [a.int,l5 b e2];rfl
  | _=>cases e
def tH:dR:=fun x y M Q=>match x,y with
 | .int i,.int j=>Q (.bl (decide (i < j))) M
 | .tup us,.tup ws=>∃ xs ys,intsOf us=some xs/\intsOf ws=some ys/\Q (.bl (HT.lexLt xs ys)) M
 | _,_=>False
variable {D:Dat}
theorem t4:lP D .Lt tH:=⟨⟨_,fun X h=>h.K ▸ Qt.or (PC h.room.units0),fun x y u w H M Q' rm ru rw h Q c=>by
 unfold tH at h
 split at h
 ·rename_i i j
  exact .inl (pZ (f:=fun i j=>decide (i < j)) x y (.int i) (.int j) H M Q' rm ru rw h Q c)
 ·rename_i us ws
  obtain ⟨xs,ys,e1,e2,q⟩:=h
  obtain ⟨a,vs,rfl,s1,r1⟩:=ru.tup
  obtain ⟨a',vs',rfl,s2,r2⟩:=rw.tup
  cases l5 r1 e1
  cases l5 r2 e2
  exact .inr ⟨a,a',xs,ys,rfl,rfl,s1,s2,c.here rm dI q⟩
 ·exact h.elim⟩⟩
end U2
namespace U2
open PySem PySem.Spec PyProof.Rows L2
def O2:Int->List Int->Int
 | m,[]=>m
 | m,n :: ns=>O2 (if n > m then n else m) ns
section
variable {X:Cx}
theorem Ht (hc:X.calm=true):lF X (.builtin "sum") (fun xs H Q=>∃ p ns,xs=[.ref p]/\dY X.K H p (ns.map V.int)/\PySem.SumFits ns/\Q (.int ns.sum) H):=by
 intro pins s σ H xs us Q I r h
 obtain ⟨p,ns,rfl,hq,hf,q⟩:=h
 obtain ⟨u,rfl,rx⟩:=vals1 r
 cases rx
 obtain ⟨its,r',pl,hz⟩:=I.list hq
 have hi:IntsAre its ns:=intsAre_of r'
 obtain ⟨ys,e⟩:=hi.allInts.items
 have hns:ns=ys.toList.map (·.1):=by
  rw [<- hi.numsOf,<- nums_intItems,<- e]
 have hl:=pl.isList
 rw [e] at hl
 subst hns
 refine sum_intList (I.ok.hd hc) hl (fun j hj=>?_) fun h' tk t' hk=>?_
 ·rw [numAt_eq,preSum_eq];exact hf j (by simpa using hj)
 ·refine ⟨.int _,H,I.kept hk,⟨t',?_⟩,q⟩
  rw [preSum_eq,List.take_of_length_le (by simp)]
def uP:List U->aF->UK->Prop:=fun us M Q=>match us with
 | [x]=>match view M x with
  | .lst ws=>∃ ns,intsOf ws=some ns/\PySem.SumFits ns/\Q (.int ns.sum) M
  | _=>False
 | _=>False
theorem Qr {D:Dat}:u3 D (.builtin "sum") uP:=⟨⟨_,fun X h=>by
  have:=(Ht (X:=X) h.calm);rw [h.K] at this;exact this,fun xs us H M Q' rm rus h Q c=>by
 unfold uP at h
 split at h
 ·rename_i x
  obtain ⟨v,rfl,a1⟩:=rus.one
  split at h
  ·rename_i ws e
   obtain ⟨ns,e2,hf,q⟩:=h
   obtain ⟨b,zvs,rfl,s2,r2⟩:=dZ rm a1 e
   rw [l5 r2 e2] at s2
   exact ⟨b,ns,rfl,s2,hf,c.here rm eJ q⟩
  ·exact h.elim
 ·exact h.elim⟩⟩
def xN:List U->aF->UK->Prop:=fun us M Q=>match us with
 | [.int i,.int j]=>Q (.int (if j > i then j else i)) M
 | [x]=>match view M x with
  | .lst ws=>∃ m ns,intsOf ws=some (m :: ns)/\Q (.int (O2 m ns)) M
  | _=>False
 | _=>False
end
end U2
namespace U2
open PySem PySem.Spec PyProof.Rows L2
section
variable {D:Dat} {a b c e o i:Expr} {ta tb tc te to ti:UE} {pos p:Pos} {es:List Expr} {tas:UA} {x:Str}
def eV (te to ti:UE):US:=fun D τ M=>te τ M fun v M1=>to τ M1 fun x M2=>ti τ M2 fun y M3=>match x,y with
 | .ref a,.int k=>match M3 a with
  | some (.lst us)=>∃ j,vD us.length k=some j/\D.nx τ (mup M3 a (.lst (us.set j v)))
  | _=>False
 | _,_=>False
theorem lN {tpos:Pos} (he:bB D e te) (ho:bB D o to) (hi:bB D i ti) (hs:∀ env,swapsWithSole [.Subscript o i tpos] e pos.line env=pure false:=by intro _;rfl) (hw:∀ env,swappedStores [.Subscript o i tpos] e env=pure none:=by intro _;rfl)
  (h1:∀ env,(assignEach [.Subscript o i tpos] env).map (·.2)=[assign (.Subscript o i tpos) env]:=by intro _;rfl)
  (ha:∀ env v,assign (.Subscript o i tpos) env v=(do
   let ov <- holding [v] (eval o env)
   let iv <- holding [v,ov] (eval i env)
   standAt tpos
   holding [v,ov,iv] (setItem ov iv v)
   release [v,ov,iv] []):=by intro _ _;rfl):qF D (.Assign [.Subscript o i tpos] e pos) (eV te to ti):=by
 obtain ⟨_,p1,s1⟩:=he;obtain ⟨_,p2,s2⟩:=ho;obtain ⟨_,p3,s3⟩:=hi
 refine ⟨_,fun X h=>OO (p1 X h) (OX (p2 X h) (p3 X h) set_list (ha _)) (hs _) (hw _) (h1 _),fun σ τ H M D' rs rm h EE d=>?_⟩
 refine s1 σ τ H M _ rs rm h _ fun v vv M1 H1 st1 rm1 rv h1=>?_
 refine s2 σ τ H1 M1 _ (rs.stp st1) rm1 h1 _ fun x vx M2 H2 st2 rm2 rx h2=>?_
 refine s3 σ τ H2 M2 _ ((rs.stp st1).stp st2) rm2 h2 _ fun y vy M3 H3 st3 rm3 ry h3=>?_
 split at h3
 ·rename_i a k
  split at h3
  ·rename_i us e
   obtain ⟨j,hj,q⟩:=h3
   cases (rx.stp st3).ref
   cases ry.int
   obtain ⟨vs,hv,rus⟩:=rm3 a _ e
   have rv3:=(rv.stp st2).stp st3
   have st4:aS H3 M3 (upd H3 a (.lst (vs.set j vv))) (mup M3 a (.lst (us.set j v))):=aS.write e
   have rnew:RelM D.K (upd H3 a (.lst (vs.set j vv))) (mup M3 a (.lst (us.set j v))):=rm3.put st4 ⟨_,cT,(aK.set rv3 j rus).stp st4⟩
   refine ⟨a,vs,k,j,rfl,rfl,hv,by rw [<- rus.length];exact hj,?_⟩
   exact d.nx _ _ _ _ (((st1.trans st2).trans st3).trans st4) rnew ((((rs.stp st1).stp st2).stp st3).stp st4) q
  ·exact h3.elim
 ·exact h3.elim
def oY:U->List U->aF->UK->Prop:=fun x ws M Q=>match x,ws with
 | .ref a,[.int i]=>match M a with
  | some (.lst us)=>-(2 ^ 63)<=i/\i < 2 ^ 63/\∃ k y,seqIndex? i us.length=some k/\us[k]?=some y/\Q y (mup M a (.lst (us.eraseIdx k)))
  | _=>False
 | _,_=>False
def tO:List U->aF->UK->Prop:=fun us M Q=>match us with
 | [.int i]=>Q (.int i) M
 | [.bl k]=>Q (.int (if k then 1 else 0)) M
 | _=>False
theorem QC:u3 D (.type "int") tO:=⟨⟨_,fun X h=>Io,fun xs us H M Q' rm rus h Q c=>by
 unfold tO at h
 split at h
 ·rename_i j
  obtain ⟨v,rfl,a⟩:=rus.one
  cases a.int
  exact .inl ⟨j,rfl,c.here rm eJ h⟩
 ·rename_i j
  obtain ⟨v,rfl,a⟩:=rus.one
  cases a.bl
  exact .inr ⟨j,rfl,c.here rm eJ h⟩
 ·exact h.elim⟩⟩
def tS (i j:Int):Prop:=Kd i j\/(Builtin.Int.intBits i<=60000000/\Builtin.Int.intBits j<=60000000)
theorem tS.ok {i j:Int} (h:tS i j):IntMulOk i j:=by
 rcases h with h | ⟨h1,h2⟩
 ·exact h.ok
 ·exact IntMulOk.of_le h1 h2 (by decide)
theorem LZ {X:Cx}:dD X (binaryOp .Mult) (rI tS fun i j=>.int (i * j)):=Li fun _ _ _ _ _ _ _ hc q=>mul_int q hc.ok
def AB (z:Str) (n:Int):Str:=if n < 1 then Str.empty else if (n == 1 || z.length == 0)=true then z else ⟨(List.replicate n.toNat z.cps).foldl (·++·) #[]⟩
theorem NH {X:Cx}:dD X (binaryOp .Mult) (fun x y H Q=>∃ z n,x=.str z/\y=.int n/\-(2 ^ 63)<=n/\n < 2 ^ 20/\z.length<=2 ^ 20/\z.length * n.toNat<=100000/\Q (.str (AB z n)) H):=by
 intro pins s σ H x y v u Q I rx ry h
 obtain ⟨z,n,rfl,rfl,h1,h2,h3,h4,q⟩:=h
 obtain ⟨t,rfl⟩:=rx
 obtain ⟨t',rfl⟩:=ry
 have e1:(decide (n < -(2 ^ 63:Int)) || decide (n ≥ 2 ^ 63))=false:=by
  rw [decide_eq_false (by omega),decide_eq_false (by omega)];rfl
 refine PySem.P.mul_str e1 (fun g1 g2=>?_) (fun g1 g2=>?_) ?_
 ·intro hh
  have hn:(1:Int)<=n:=by omega
  have e3:(z.length:Int) * n=((z.length * n.toNat:Nat):Int):=by
   rw [Int.natCast_mul,Int.toNat_of_nonneg (by omega)]
  have:=Int.le_ediv_of_mul_le (show (0:Int) < n by omega) (show (z.length:Int) * n<=2 ^ 63 - 1 by rw [e3];omega)
  omega
 ·unfold Builtin.Str.tooLong sizeLine
  exact decide_eq_false (by omega)
 ·have hq:∀ (t2:Tok) k,EP X pins σ Q (.str (AB z n) t2) { s with toks:=k }:=fun t2 k=>⟨.str (AB z n),H,I.tok k,⟨t2,rfl⟩,q⟩
  unfold AB at hq
  by_cases g1:n < 1
  ·rw [if_pos g1]
   simp only [if_pos g1] at hq
   exact ⟨by decide,hq _ _⟩
  ·rw [if_neg g1]
   simp only [if_neg g1] at hq
   by_cases g2:(n == 1 || z.length == 0)=true
   ·rw [if_pos g2]
    simp only [if_pos g2] at hq
    exact hq t s.toks
   ·rw [if_neg g2]
    simp only [if_neg g2] at hq
    refine ⟨?_,hq _ _⟩
    have hsz:∀ (k:Nat) (acc:Array Nat),((List.replicate k z.cps).foldl (·++·) acc).size=acc.size + k * z.cps.size:=by
     intro k
     induction k with
     | zero=>intro acc;simp
     | succ k ih=>intro acc;rw [List.replicate_succ,List.foldl_cons,ih,Array.size_append,Nat.succ_mul];omega
    show ((List.replicate n.toNat z.cps).foldl (·++·) #[]).size<=sizeLine
    rw [hsz]
    have h5:n.toNat * z.cps.size<=100000:=by rw [Nat.mul_comm];exact h4
    have:(100000:Nat)<=sizeLine:=by decide
    simp only [Array.size_empty,Nat.zero_add]
    omega
def qL (o:Bool):dR:=fun x y M Q=>match x,y with
 | .int i,.int j=>tS i j/\Q (.int (i * j)) M
 | .str z,.int n=>-(2 ^ 63)<=n/\n < 2 ^ 20/\z.length<=2 ^ 20/\z.length * n.toNat<=100000/\Q (.str (AB z n)) M
 | .ref a,.int k=>match M a with
  | some (.lst us)=>-(2 ^ 63)<=k/\k < 2 ^ 63/\us.length * k.toNat<=sizeLine/\jQ o (List.replicate k.toNat us).flatten M Q
  | _=>False
 | _,_=>False
theorem aK.rep {K:PySem.W.Frag} {H:Hp} {M:aF} {us:List U} {vs:List V} (r:aK K H M us vs):∀ k:Nat,aK K H M (List.replicate k us).flatten (List.replicate k vs).flatten
 | 0=>by simp only [List.replicate_zero,List.flatten_nil];exact .nil
 | k + 1=>by simp only [List.replicate_succ,List.flatten_cons];exact r.append (aK.rep r k)
theorem L5 {K:PySem.W.Frag} {o:Bool}:dS K (fun x y H Q=>rI tS (fun i j=>.int (i * j)) x y H Q\/((∃ z n,x=.str z/\y=.int n/\-(2 ^ 63)<=n/\n < 2 ^ 20/\z.length<=2 ^ 20/\z.length * n.toNat<=100000/\Q (.str (AB z n)) H)\/PL x y H Q)) (qL o):=fun x y u w H M Q' rm ru rw h Q c=>by
 unfold qL at h
 split at h
 ·rename_i i j
  exact .inl (p5 (C:=tS) (f:=fun i j=>i * j) x y (.int i) (.int j) H M Q' rm ru rw h Q c)
 ·rename_i z n
  cases ru.str;cases rw.int
  exact .inr (.inl ⟨z,n,rfl,rfl,h.1,h.2.1,h.2.2.1,h.2.2.2.1,c.here rm mU h.2.2.2.2⟩)
 ·rename_i a k
  split at h
  ·rename_i us e
   obtain ⟨vs,hv,r⟩:=rm a _ e
   cases ru.ref;cases rw.int
   exact .inr (.inr ⟨a,k,vs,rfl,rfl,hv,h.1,h.2.1,by rw [<- r.length];exact h.2.2.1,fun p hp=>c.lst rm (r.rep k.toNat) hp h.2.2.2⟩)
  ·exact h.elim
 ·exact h.elim
theorem rX (own:Bool:=false) (ha:bB D a ta) (hb:bB D b tb):bB D (.BinOp a .Mult b pos) (kO (qL own) ta tb):=uA (fun _ _=>LZ.or (NH.or OK)) L5 ha hb
def LJ (_ j:Int):Prop:=0 < j/\j < 2 ^ 64
theorem Ja {X:Cx}:dD X (binaryOp .FloorDiv) (rI LJ fun i j=>.int (i / j)):=Li fun i j _ _ _ _ _ hc q=>by
 have h1:(0:Int) < j:=hc.1
 have h2:j.natAbs.log2 < 9000:=by
  have h3:j.natAbs < 2 ^ 64:=by have:=hc.2;omega
  by_cases h:j.natAbs=0
  ·rw [h];decide
  ·have:=(Nat.log2_lt h).mpr h3
   omega
 exact floordiv_int (by omega) (by rw [Int.fdiv_eq_ediv_of_nonneg i (by omega)];exact q) (.inl (PyProof.noPylong_of_log2 h2))
theorem Aw (ha:bB D a ta) (hb:bB D b tb):bB D (.BinOp a .FloorDiv b pos) (kO (uI LJ fun i j=>.int (i / j)) ta tb):=uA (fun _ _=>Ja) p5 ha hb
end
end U2
namespace HT
open PySem PySem.Spec PyProof.Rows L2
variable {prog:Program} {w:World} {A:Around} {E:Value->Shared->Prop} {s:Shared}
theorem uX {t sl:Addr} {items:Array Value} {vl vu:Value} {lo hi:Option Int} {Q:Value->Shared->Prop} (ht:IsTup s.heap t items) (hs:s.heap.IsSliceOf sl vl vu .none) (pl:IsPart vl lo) (pu:IsPart vu hi)
  (hw:bP items.size 0 lo=0/\bP items.size items.size hi=items.size)
  (h:Q (.ref t) s):wpAny (model prog w) A (getItem (.ref t) (.ref sl)) Q E s:=by
 obtain ⟨os,hos,hcs,hds⟩:=id hs
 have hTs:s.TypeIs (.ref sl) "slice":=⟨os,hos,hcs⟩
 unfold getItem
 try with_reducible refine wpAny_holding ?_
 first | refine wpAny_bind (wpAny_pure ?_) | skip
 refine wpAny_bind (wpAny_sequenceKey ht.typeIs (by decide) ?_)
 refine wpAny_bind (wpAny_callSpecial?_slot (name:=Str.ofString "__getitem__") ht.typeIs PyProof.Rows.slot_tuple_getitem
  (wpAny_call_entry PyProof.Rows.slot_tuple_getitem ht.typeIs entry_tuple_getitem ?_ (args_tuple_getitem _ _)))
 show wpAny _ _ (Builtin.Tuple.tupleItemsOf (.ref t) >>= _) _ _ s
 refine wpAny_bind (tupleItemsOf_ ht ?_)
 refine wpAny_bind (wpAny_typeOf hTs ?_)
 rw [if_pos (by decide)]
 refine wpAny_bind (pA hs pl pu ?_)
 have hyes:((((bP items.size 0 lo:Nat):Int) == 0 && (1:Int) == 1 && (bP items.size items.size hi - bP items.size 0 lo) == items.size)=true):=by
  rw [hw.1,hw.2];simp
 show wpAny _ _ (if (((bP items.size 0 lo:Nat):Int) == 0 && (1:Int) == 1 && (bP items.size items.size hi - bP items.size 0 lo) == items.size)=true then _ else _) _ _ s
 rw [if_pos hyes]
 unfold Builtin.Tuple.tupleIsExact
 refine wpAny_bind (wpAny_bind (wpAny_typeOf ht.typeIs (wpAny_pure ?_)))
 rw [if_pos (by decide)]
 refine wpAny_bind (wpAny_rule ?_)
 exact wpAny_pure ⟨_,rfl,wpAny_pure h⟩
end HT
namespace U2
open PySem PySem.Spec PyProof.Rows L2
def O4 (K:PySem.W.Frag):V->Option Int->Option Int->Hp->VK->Prop:=fun x lo hi H Q=>∃ a xs,x=.ref a/\eW K H a xs/\(HT.bP xs.length 0 lo=0/\HT.bP xs.length xs.length hi=xs.length)/\Q (.ref a) H
theorem Mz {X:Cx}:wR X (O4 X.K):=by
 intro pins s σ H x v vl vu lo hi sl Q I rx hs pl pu h
 obtain ⟨a,xs,rfl,hx,hw,q⟩:=h
 cases rx
 obtain ⟨its,r,ht,hz⟩:=I.tuple hx
 have hlen:its.toArray.size=xs.length:=by rw [List.size_toArray];exact r.length.symm
 refine ⟨"tuple",_,PyProof.Rows.slot_tuple_getitem.lookup,ht.typeIs,?_⟩
 refine HT.uX ht hs pl pu (by rw [hlen];exact hw) ⟨.ref a,H,I,rfl,q⟩
def Av (o:Bool) (te:UE) (tl th:UO):UE:=fun τ M Q=>te τ M fun x M1=>tl τ M1 fun l M2=>th τ M2 fun h M3=>match view M3 x with
 | .lst us=>jQ o (dB us l h) M3 Q
 | .tup us=>Q (.tup (dB us l h)) M3
 | .str z=>z.length<=sizeLine/\Q (.str (Txt.slice z l h)) M3
 | _=>False
theorem Nu {K:PySem.W.Frag} {o:Bool} {te:TE} {te':UE} {tl th:TO} {tl' th':UO} (h0:cI K te te') (h1:CG K tl tl') (h2:CG K th th'):cI K (QY (fun x lo hi H Q=>Pp K x lo hi H Q\/O4 K x lo hi H Q) te tl th) (Av o te' tl' th'):=fun σ τ H M Q' rs rm q Q c =>
 h0 σ τ H M _ rs rm q _ fun u v M1 H1 s1 rm1 ru q1=>h1 σ τ H1 M1 _ (rs.stp s1) rm1 q1 _ fun lo M2 H2 s2 rm2 q2=>h2 σ τ H2 M2 _ ((rs.stp s1).stp s2) rm2 q2 _ fun hi M3 H3 s3 rm3 q3=>by
  have c3:=eE.stp c ((s1.trans s2).trans s3)
  have ru3:=ru.stp (s2.trans s3)
  split at q3
  ·rename_i us e
   obtain ⟨a,xs,rfl,r1,r2⟩:=dZ rm3 ru3 e
   exact .inl (.inl ⟨a,xs,rfl,r1,fun p hp=>c3.lst rm3 (Es r2 lo hi) hp q3⟩)
  ·rename_i us e
   have e':=pE e
   subst e'
   obtain ⟨a,xs,rfl,r1,r2⟩:=ru3.tup
   by_cases hw:HT.bP xs.length 0 lo=0/\HT.bP xs.length xs.length hi=xs.length
   ·refine .inr ⟨a,xs,rfl,r1,hw,c3 _ _ M3 H3 (aS.refl _ _) rm3 ?_ q3⟩
    have e4:dB us lo hi=us:=by
     unfold dB
     rw [r2.length,hw.1,hw.2,List.drop_zero,Nat.sub_zero,<- r2.length,List.take_length]
    rw [e4]
    exact ru3
   ·exact .inl (.inr (.inl ⟨a,xs,rfl,r1,hw,fun p hp=>c3.tup rm3 (Es r2 lo hi) hp q3⟩))
  ·rename_i z e
   have e':=xV e
   subst e'
   exact .inl (.inr (.inr ⟨z,ru3.str,q3.1,c3 _ _ M3 H3 (aS.refl _ _) rm3 mU q3.2⟩))
  ·exact q3.elim
theorem pO {D:Dat} {a:Expr} {ta:UE} {pos:Pos} (own:Bool:=false) {lo hi:Option Expr} {tl th:UO} {p2:Pos} (ha:bB D a ta) (hl:Lc D lo tl) (hh:Lc D hi th):bB D (.Subscript a (.Slice lo hi none p2) pos) (Av own ta tl th):=by
 obtain ⟨_,p,s⟩:=ha;obtain ⟨_,q,r⟩:=hl;obtain ⟨_,u,v⟩:=hh
 refine ⟨_,fun X h=>?_,Nu s r v⟩
 have:=JU (pos:=pos) (p2:=p2) (Pn.or Mz) (p X h) (q X h) (u X h)
 rw [h.K] at this
 exact this
end U2
namespace Att
open PySem PySem.Spec PyProof.Rows PySem.W Calls
end Att
namespace L2
open PySem PySem.Spec PyProof.Rows
end L2
namespace U2
open PySem PySem.Spec PyProof.Rows L2
def zS (K:PySem.W.Frag) (n:Nat) (a:Addr):It :=
 ⟨fun i H=>∃ xs x,dY K H a xs/\xs.length=n/\i < n/\xs[n - 1 - i]?=some x,fun i H x H'=>H'=H/\∀ xs,dY K H a xs->xs[n - 1 - i]?=some x,fun i H=>i=n⟩
theorem Jm {P:Program} {w:World} {K:PySem.W.Frag} {tg:Expr} (n:Nat) (a it:Addr):Turn P w K tg (zS K n a) [it] it (fun i h=>h.IsRevIter it a ((n:Int) - 1 - (i:Int))) where
 mem:=by simp
 obj:=fun i h st b hb=>by
  have e:b=it:=by simpa using hb
  subst e
  obtain ⟨o,e,c,d⟩:=st
  exact ⟨o,e,fun v z=>by rw [d] at z;cases z⟩
 keep:=fun i h h' st k=>st.at fun o e=>k it (by simp) o e
 item:=by
  intro X hP hw hK hc i pins s σ H E I hf st hg
  subst hP hw hK
  obtain ⟨xs,x,hq,hn,hi,hx⟩:=hg
  obtain ⟨its,rv,p,hz⟩:=I.list hq
  obtain ⟨u,hu,ru⟩:=rv.get hx
  obtain ⟨f0,f1,f2,f3,f4,f5⟩:=hf it (by simp)
  have e:(n:Int) - 1 - (i:Int)=((n - 1 - i:Nat):Int):=by omega
  have st0:=st
  rw [e] at st0
  refine wpAny_pyNext_rev_item st0 p.isList (x:=u) (by simpa using hu) fun h' st' sb=>?_
  have I1:Inv X pins σ H { s with heap:=h' }:=I.turned (t':=s.toks) (fun b o hb e=>(sb.2 b hb).trans e) f0 f1 f3 f4 f5
  have e2:((n - 1 - i:Nat):Int) - 1=(n:Int) - 1 - ((i + 1:Nat):Int):=by omega
  rw [e2] at st'
  obtain ⟨o,e,c,d⟩:=id st'
  exact ⟨u,rfl,vX (s:={ s with heap:=h' }) e c d (by decide) ⟨x,H,I1,ru,⟨rfl,fun ys hy=>by rw [I.list_inj hy hq];exact hx⟩,st',fun b hb=>(hf b hb).1⟩⟩
 done:=by
  intro X hP hw hK hc i pins s σ H E I hf st hg
  subst hP hw hK
  have hg':i=n:=hg
  subst hg'
  obtain ⟨f0,f1,f2,f3,f4,f5⟩:=hf it (by simp)
  have e:(i:Int) - 1 - (i:Int)=-1:=by omega
  rw [e] at st
  exact wpAny_pyNext_rev_end (I.ok.hd hc) st fun h' eb=>⟨rfl,I.turned (t':=s.toks) (fun b o hb e=>eb b o hb e) f0 f1 f3 f4 f5⟩
 self:=fun _ _ _ _ _ st h=>wpAny_pyIter_revIter st h
def OH (K:PySem.W.Frag) (ta:TA):TI:=fun σ H R=>ta σ H fun vs H1=>∃ a xs,vs=[.ref a]/\dY K H1 a xs/\R (zS K xs.length a) H1
theorem boot_reversed:bootBuiltins "reversed"=some (.type "reversed"):=by kernel_rfl
theorem NV {X:Cx} {tg:Expr} {a:Expr} {ta:TA} {p pos:Pos} (hg:Gl X "reversed") (hm:X.mg "reversed"=none) (ha:PA X [a] ta) (hs:starEach [a] X.env=[(false,eval a X.env)]) :
  PI X tg (.Call (.Name "reversed" p) [a] [] pos) (OH X.K ta):=by
 intro pins s σ H R I h
 refine Call_ (nK I hg hm boot_reversed (PyProof.Rows.callWith_type1 (bE (ha pos pins s σ H _ I h) fun us s1 ⟨vs,H1,I1,r1,q1⟩=>?_) hs rfl))
 obtain ⟨a,xs,e,hq,q⟩:=q1
 subst e
 cases r1 with
 | cons r rr =>
  cases rr
  cases r
  obtain ⟨its,rv,p,hz⟩:=I1.list hq
  have hrev:Heap.IsRevIter (s1.heap.push (revObj a ((its.toArray.size:Int) - 1))) s1.heap.objs.size a ((xs.length:Int) - 1 - ((0:Nat):Int)):=by
   refine ⟨_,Heap.get?_push_size _ rfl,rfl,?_⟩
   have e1:((its.toArray.size:Nat):Int) - 1=(xs.length:Int) - 1 - ((0:Nat):Int):=by rw [List.size_toArray,<- rv.length];omega
   rw [<- e1];rfl
  refine call_reversed_list p.isList ?_
  refine wpAny_pyIter_revIter (s:={ s1 with heap:=s1.heap.push (revObj a ((its.toArray.size:Int) - 1)) }) hrev ?_
  have I2:L2.Inv X pins σ H1 { s1 with heap:=s1.heap.push (revObj a ((its.toArray.size:Int) - 1)),toks:=s1.toks }:=I1.kept fun b o e=>Heap.get?_push_of_some _ e
  refine ⟨s1.heap.objs.size,[s1.heap.objs.size],_,_,H1,rfl,I2,Jm xs.length a s1.heap.objs.size,hrev,fun b hb=>?_,q⟩
  have e:b=s1.heap.objs.size:=by simpa using hb
  subst e
  exact I1.fpOk (Nat.le_refl _) (I1.hok.fresh (Nat.le_refl _))
theorem JK {K:PySem.W.Frag} {a:Addr} {us:List U} {vs:List V} {H:Hp} {M:aF} (m:(M a=none/\Rd H a (.lst vs))\/KL K a vs) (r:aK K H M us vs):Walk K (zS K vs.length a) ⟨none,us.reverse⟩ H M:=by
 have sq:∀ H1 M1,aS H M H1 M1->dY K H1 a vs:=fun H1 M1 s=>by
  rcases m with ⟨m,h⟩ | k
  ·exact .inl (Rd.stp s m h).2
  ·exact .inr k
 refine ⟨fun H1 M1 s rm _ i u e=>?_,fun H1 M1 s rm _=>by show us.reverse.length=vs.length;rw [List.length_reverse,r.length]⟩
 have e':us.reverse[i]?=some u:=e
 have hi:i < us.length:=by
  have:=(List.getElem?_eq_some_iff.mp e').1
  simpa using this
 rw [List.getElem?_reverse hi] at e'
 obtain ⟨v,e2,ru⟩:=r.get e'
 rw [r.length] at e2 hi
 refine ⟨⟨vs,v,sq H1 M1 s,rfl,hi,e2⟩,fun x H2 y=>?_⟩
 obtain ⟨rfl,y⟩:=y
 have:=y vs (sq _ M1 s)
 rw [e2] at this;cases this
 exact ⟨aS.refl _ _,rm,ru.stp s⟩
def Ah (ta:UA):UI:=fun τ M R=>ta τ M fun us M1=>match us with
 | [.lst us]=>R ⟨none,us.reverse⟩ M1
 | _=>False
theorem LW {K:PySem.W.Frag} {ta:TA} {ta':UA} (h:kE K ta ta'):nQ K (OH K ta) (Ah ta'):=fun σ τ H M R' rs rm q R c=>h σ τ H M _ rs rm q _ fun us vs M1 H1 s1 rm1 ru h1=>by
 split at h1
 ·rename_i xs
  obtain ⟨v,rfl,a⟩:=ru.one
  simp only [aJ] at a
  obtain ⟨a,vs,rfl,m,r⟩:=a
  refine ⟨a,vs,rfl,?_,c _ _ M1 H1 s1 rm1 (JK m r) h1⟩
  rcases m with ⟨_,m⟩ | k
  ·exact .inl m
  ·exact .inr k
 ·exact h1.elim
theorem wL {D:Dat} {tg:Expr} {a:Expr} {p pos:Pos} {ta:UA} (hm:D.mg "reversed"=none) (ha:lZ D [a] ta) (hg:D.sc.names.lookup ("reversed":Str)=some .globalImplicit:=by rfl) (hs:∀ env,starEach [a] env=[(false,eval a env)]:=by intro _;rfl):rW D tg (.Call (.Name "reversed" p) [a] [] pos) (Ah ta):=by
 obtain ⟨_,q,s⟩:=ha
 exact ⟨_,fun X h=>h.K ▸ NV (by show X.env.scope.names.lookup _=_;rw [h.sc];exact hg) (by rw [h.mg];exact hm) (q X h) (hs _),LW s⟩
end U2
namespace U2
open PySem PySem.Spec PyProof.Rows L2
section
variable {prog:Program} {w:World} {A:Around} {E:Value->Shared->Prop} {s:Shared}
end
def xH (o:Bool) (ta:UA):UE:=fun τ M Q=>ta τ M fun us M1=>match us with
 | [x]=>match view M1 x with
  | .lst us=>jQ o us.reverse M1 Q
  | _=>False
 | _=>False
end U2
namespace U2
open PySem PySem.Spec PyProof.Rows L2
section
variable {prog:Program} {w:World} {A:Around} {E:Value->Shared->Prop} {s:Shared}
end
def xJ (te to ti:UE):US:=fun D τ M=>te τ M fun v M1=>to τ M1 fun x M2=>ti τ M2 fun y M3=>match v,x,y with
 | .ref b,.ref l,.int a=>match M3 b,M3 l with
  | some (.lst ws),some (.lst us)=>l≠b/\0<=a/\a<=us.length/\us.length + ws.length<=sizeLine/\D.nx τ (mup M3 l (.lst (us.take a.toNat++ws)))
  | _,_=>False
 | _,_,_=>False
end U2
namespace U2
open PySem PySem.Spec PyProof.Rows L2
end U2
namespace U2
open PySem PySem.Spec PyProof.Rows L2
def bW:dR:=fun x y M Q=>match x,y with
 | .bl i,.bl j=>Q (.bl (!decide (i=j))) M
 | _,_=>False
def bV:dR:=fun x y M Q=>match x,y with
 | .bl i,.bl j=>Q (.bl (decide (i=j))) M
 | _,_=>False
end U2
namespace U2
open PySem PySem.Spec PyProof.Rows L2
theorem ED:∀ {us:List Value} {ns:List Int},IntsAre us ns->Vals (ns.map V.int) us
 | _,_,.nil=>.nil
 | _,_,.cons n t r=>.cons ⟨t,rfl⟩ (ED r)
theorem BS {X:Cx}:lF X (.builtin "sorted") (fun xs H Q=>∃ p ns,xs=[.ref p]/\dY X.K H p (ns.map V.int)/\ns.length < 64/\∀ (ns':List Int) (q:Addr),ns'.Perm ns->ns'.Pairwise (·<=·)->H q=none->Q (.ref q) (upd H q (.lst (ns'.map V.int)))):=by
 intro pins s σ H xs us Q I r h
 obtain ⟨p,ns,rfl,hq,h64,q⟩:=h
 obtain ⟨u,rfl,rx⟩:=vals1 r
 cases rx
 obtain ⟨its,r',pl,hz⟩:=I.list hq
 have hi:IntsAre its ns:=intsAre_of r'
 have hlen:its.length=ns.length:=by have:=r'.length;rw [List.length_map] at this;exact this.symm
 refine sorted_ints pl.isList hi (by omega) fun out ns' a1 a2 a3=>?_
 obtain ⟨e,he⟩:=sortedAll_at s.heap its out
 have hD:H (s.heap.objs.size + 1)=none:=I.hok.fresh (Nat.le_succ _)
 have hl':ns'.length=ns.length:=a2.length_eq
 refine ⟨.ref (s.heap.objs.size + 1),_,I.laid (t':=s.toks) (o:=.lst (ns'.map V.int)) (fun c o e=>sortedAll_old e) (Nat.le_succ _) ⟨?_,out.toList,e,ED a1,?_⟩,rfl,q ns' _ a2 a3 hD⟩
 ·rw [List.length_map,hl'];exact Nat.le_trans (Nat.le_of_lt h64) (by decide)
 ·simpa using he
def rP (o:Bool):List U->aF->UK->Prop:=fun us M Q=>match us with
 | [x]=>match view M x with
  | .lst ws=>∃ ns,intsOf ws=some ns/\ns.length < 64/\∀ ns':List Int,ns'.Perm ns->ns'.Pairwise (·<=·)->jQ o (ns'.map U.int) M Q
  | _=>False
 | _=>False
theorem zQ {K:PySem.W.Frag} {H:Hp} {M:aF}:∀ ns:List Int,aK K H M (ns.map U.int) (ns.map V.int)
 | []=>.nil
 | n :: ns=>by
  have:=zQ (K:=K) (H:=H) (M:=M) ns
  simp only [List.map_cons,aK]
  exact ⟨_,_,rfl,eJ,this⟩
theorem J2 (own:Bool:=false) {D:Dat}:u3 D (.builtin "sorted") (rP own):=⟨⟨_,fun X h=>by
  have:=(BS (X:=X));rw [h.K] at this;exact this,fun xs us H M Q' rm rus h Q c=>by
 unfold rP at h
 split at h
 ·rename_i x
  obtain ⟨v,rfl,a1⟩:=rus.one
  split at h
  ·rename_i ws e
   obtain ⟨ns,e2,h64,q⟩:=h
   obtain ⟨b,zvs,rfl,s2,r2⟩:=dZ rm a1 e
   rw [l5 r2 e2] at s2
   exact ⟨b,ns,rfl,s2,h64,fun ns' q2 p1 p2 hq=>c.lst rm (zQ ns') hq (q ns' p1 p2)⟩
  ·exact h.elim
 ·exact h.elim⟩⟩
theorem hX.len {K:PySem.W.Frag} {H:Hp}:∀ {ds:List PyData} {vs:List V},hX K H ds vs->ds.length=vs.length
 | [],vs,h=>by simp only [hX] at h;subst h;rfl
 | d :: ds,vs,h=>by
  simp only [hX] at h
  obtain ⟨v,vs',rfl,_,h2⟩:=h
  simp only [List.length_cons,hX.len h2]
open Classical in
def uB (neg:Bool):dR:=fun x y M Q=>∃ us ds d,items M y=some us/\eD us=some ds/\nN M x=some d/\PyData.canLayAll0 ds=true/\d.canLay0=true/\d.depth<=60/\Q (.bl (if neg then !ds.any (fun e=>PyData.eqv e d) else ds.any (fun e=>PyData.eqv e d))) M
theorem Hu (l:Addr) (items:Array Value) (n:Nat) (dd:Option Addr) (sl:Array (Option Value)) (x:Int) (u:Tok) (hc0:¬(!Builtin.List.listFitsIndex x)=true) (hc1:¬items.size * x.toNat > (2 ^ 63 - 1) / 8) (hc2:¬Builtin.List.listTooLong (items.size * x.toNat)=true) :
  Meets (Builtin.«list.__mul__» ⟨[.ref l,.int x u],[]⟩) (fun _ R s=>s.heap.get? l=some { cls:=.type "list",dict:=dd,data:=.seq items n,slots:=sl }/\R (.ok (.ret (Value.ref s.heap.objs.size))) { s with heap:=s.heap.push { cls:=.type "list",data:=.seq (List.foldl (fun x1 x2=>x1++x2) #[] (List.replicate (if items.isEmpty=true then 0 else x.toNat) items)) 0 } }) :=
 .of_wp fun prog w A R s h=>by
  obtain ⟨hp,g,d,tk,os⟩:=s;obtain ⟨hl,h⟩:=h
  have hsz:=PySem.AutoListH.joined_fits hc2
  wp_walk;refine wpAny_ite_false (decide_eq_false (Nat.not_lt.mpr hsz)) ?_;wp_walk;exact ⟨_,rfl,h⟩
theorem Il (a:Int) (t:Tok) (l:Addr) (items:Array Value) (n:Nat) (dd:Option Addr) (sl:Array (Option Value)) :
  Meets (Builtin.«int.__rmul__» ⟨[.int a t,.ref l],[]⟩) (fun _ R s=>s.heap.get? l=some { cls:=.type "list",dict:=dd,data:=.seq items n,slots:=sl }/\R (.ok (.ret Value.notImplemented)) s) :=
 .of_wp fun prog w A R s h=>by obtain ⟨hp,g,d,tk,os⟩:=s;obtain ⟨hl,h⟩:=h;wp_walk;exact ⟨_,rfl,h⟩
def Lv (K:PySem.W.Frag):R2:=fun x y H Q=>∃ l k xs,x=.ref l/\y=.int k/\dY K H l xs/\-(2 ^ 63)<=k/\k < 2 ^ 63/\xs.length * k.toNat<=sizeLine /\
 ∀ p,H p=none->Q (.ref p) (upd H p (.lst (List.replicate k.toNat xs).flatten))
theorem Mh {X:Cx}:dD X (binaryOp .Mult) (Lv X.K):=by
 intro pins s σ H x y v u Q I rx ry h
 obtain ⟨l,k,xs,rfl,rfl,hH,h1,h2,hz,q⟩:=h
 cases rx
 obtain ⟨t,rfl⟩:=ry
 obtain ⟨its,r,p,hl'⟩:=I.list hH
 have hl:=r.length
 obtain ⟨⟨cls,dd,data,sl⟩,n,e,hc,_,hd⟩:=p
 simp only at hc hd
 subst hc hd
 have hlen:its.toArray.size * k.toNat<=sizeLine:=by rw [List.size_toArray,<- hl];exact hz
 have hcap:¬ its.toArray.size * k.toNat > (2 ^ 63 - 1) / 8:=by
  have:(sizeLine:Nat)<=(2 ^ 63 - 1) / 8:=by decide
  omega
 have hfit:¬ (!Builtin.List.listFitsIndex k)=true:=by
  rw [fitsIndex_both h1 h2]
  exact Bool.false_ne_true
 have hlong:¬ Builtin.List.listTooLong (its.toArray.size * k.toNat)=true:=by
  rw [xG hlen]
  exact Bool.false_ne_true
 have hnew:List.foldl (fun x1 x2=>x1++x2) #[] (List.replicate (if its.toArray.isEmpty=true then 0 else k.toNat) its.toArray)=(List.replicate k.toNat its).flatten.toArray:=by
  have f0:∀ m:Nat,List.foldl (fun x1 x2=>x1++x2) #[] (List.replicate m its.toArray)=(List.replicate m its).flatten.toArray:=fun m=>by
   have:=foldl_rep its m []
   rw [List.nil_append] at this
   exact this
  rw [f0]
  cases its with
  | nil=>simp
  | cons a r'=>rw [if_neg (by simp)]
 refine wpAny_binaryOp_repeat_ref (T:="list") (U:="int") (by decide) ⟨_,e,rfl⟩ (fun s'=>typeIs_int s' k t) noFill_list_mul F.fills_int_mul F.slot_int_rmul repeat_list F.slot_int_index.lookup
  (call_meets F.slot_int_rmul (typeIs_int s k t) F.entry_int_rmul (F.args_int_rmul_2 _ _) (Il k t l its.toArray n dd sl)
   ⟨e,rfl,⟨_,e,rfl⟩,call_meets F.slot_list_mul ⟨_,e,rfl⟩ F.entry_list_mul (F.args_list_mul_2 _ _) (Hu l its.toArray n dd sl k t hfit hcap hlong) ⟨e,?_⟩⟩)
 rw [hnew]
 exact ⟨.ref _,_,I.lnew (t':=s.toks) (r.rep k.toNat) (by rw [len_rep,Nat.mul_comm];exact hz),rfl,q _ I.fresh⟩
def vL (o:Bool):dR:=fun x y M Q=>match view M x,y with
 | .lst us,.int k=>-(2 ^ 63)<=k/\k < 2 ^ 63/\us.length * k.toNat<=sizeLine/\jQ o (List.replicate k.toNat us).flatten M Q
 | _,_=>False
theorem JJ {K:PySem.W.Frag} {o:Bool}:dS K (Lv K) (vL o):=fun x y u w H M Q' rm ru rw h Q c=>by
 unfold vL at h
 split at h
 ·rename_i us k e
  obtain ⟨a,vs,rfl,s2,r2⟩:=dZ rm ru e
  cases rw.int
  exact ⟨a,k,vs,rfl,rfl,s2,h.1,h.2.1,by rw [<- r2.length];exact h.2.2.1,fun p hp=>c.lst rm (r2.rep k.toNat) hp h.2.2.2⟩
 ·exact h.elim
theorem LS {D:Dat} (own:Bool:=false) {a b:Expr} {ta tb:UE} {pos:Pos} (ha:bB D a ta) (hb:bB D b tb):bB D (.BinOp a .Mult b pos) (kO (vL own) ta tb):=uA (fun X h=>by have:=Mh (X:=X);rw [h.K] at this;exact this) JJ ha hb
end U2
namespace U2
open PySem PySem.Spec PyProof.Rows L2
def jS (_:PySem.W.Frag):Prop:=True
def nP:U->Option Key
 | .int i=>some (.inl i)
 | .str x=>some (.inr x)
 | _=>none
def jP:List U->Option (List Key)
 | []=>some []
 | u :: us=>match nP u,jP us with
  | some k,some ks=>some (k :: ks)
  | _,_=>none
def kU:Key->U
 | .inl i=>.int i
 | .inr x=>.str x
theorem Mn (k:Key):nP (kU k)=some k:=by cases k <;> rfl
theorem BV:∀ ks:List Key,jP (ks.map kU)=some ks
 | []=>rfl
 | k :: ks=>by simp only [List.map_cons,jP,Mn,BV ks]
theorem sE {K:PySem.W.Frag} {H:Hp} {M:aF} {u:U} {v:V} {k:Key} (r:aJ K H M u v) (e:nP u=some k):v=kV k:=by
 cases u with
 | int i=>cases e;exact r.int
 | str x=>cases e;exact r.str
 | _=>cases e
theorem Bm {K:PySem.W.Frag} {H:Hp} {M:aF}:∀ {us:List U} {vs:List V} {ks:List Key},aK K H M us vs->jP us=some ks->vs=ks.map kV
 | [],_,_,r,e=>by cases e;exact r.inv_nil
 | u :: us,_,ks,r,e=>by
  obtain ⟨v,vs',rfl,a,b⟩:=r.inv_cons
  simp only [jP] at e
  cases e1:nP u with
  | none=>rw [e1] at e;cases e
  | some k =>
   cases e2:jP us with
   | none=>rw [e1,e2] at e;cases e
   | some ks' =>
    rw [e1,e2] at e;cases e
    rw [sE a e1,Bm b e2];rfl
section
variable {κ:Type} [DecidableEq κ]
def cU (kvs:List (κ × U)) (k:κ):Option U:=(kvs.find? fun kv=>decide (kv.1=k)).map (·.2)
def gI (kvs:List (κ × U)) (k:κ) (u:U):List (κ × U) :=
 if (kvs.any fun kv=>decide (kv.1=k))=true then kvs.map (fun kv=>if kv.1=k then (kv.1,u) else kv) else kvs++[(k,u)]
theorem jV {p:κ × U} {r:List (κ × U)} {k:κ} (e:p.1=k):cU (p :: r) k=some p.2:=by simp [cU,List.find?_cons,e]
theorem mW {p:κ × U} {r:List (κ × U)} {k:κ} (e:¬ p.1=k):cU (p :: r) k=cU r k:=by simp [cU,List.find?_cons,e]
theorem xC (k:κ):∀ kvs:List (κ × U),(kvs.any fun kv=>decide (kv.1=k))=(cU kvs k).isSome
 | []=>rfl
 | p :: r=>by
  rw [List.any_cons]
  by_cases e:p.1=k
  ·simp only [jV e,decide_eq_true e,Bool.true_or,Option.isSome_some]
  ·rw [mW e,decide_eq_false e,Bool.false_or];exact xC k r
theorem uH {kvs:List (κ × U)} {k:κ} {u:U} (h:cU kvs k=none):gI kvs k u=kvs++[(k,u)]:=by
 unfold gI
 rw [xC,h]
 exact if_neg (by decide)
theorem Kf (kvs:List (κ × U)) (k:κ) (u:U):(gI kvs k u).length<=kvs.length + 1:=by
 unfold gI
 split
 ·rw [List.length_map];omega
 ·rw [List.length_append,List.length_cons,List.length_nil];omega
variable {K:PySem.W.Frag} {H:Hp} {M:aF}
theorem cO.any {kvs:List (κ × U)} {ws:List (κ × V)} (r:cO K H M kvs ws) (k:κ):(kvs.any fun kv=>decide (kv.1=k))=ws.any fun kv=>decide (kv.1=k):=by
 unfold cO at r
 induction r with
 | nil=>rfl
 | cons h t ih=>rw [List.any_cons,List.any_cons,ih,h.1]
def sV (K:PySem.W.Frag) (H:Hp) (M:aF):Option U->Option V->Prop
 | none,none=>True
 | some u,some v=>aJ K H M u v
 | _,_=>False
theorem cO.val {kvs:List (κ × U)} {ws:List (κ × V)} (r:cO K H M kvs ws) (k:κ):sV K H M (cU kvs k) (kW ws k):=by
 unfold cO at r
 induction r with
 | nil=>exact True.intro
 | @cons p q ps qs h t ih =>
  obtain ⟨h1,h2⟩:=h
  by_cases e:p.1=k
  ·rw [jV e,jD (h1.symm.trans e)];exact h2
  ·rw [mW e,jA (fun z=>e (h1.trans z))];exact ih
theorem cO.repl {kvs:List (κ × U)} {ws:List (κ × V)} (r:cO K H M kvs ws) (k:κ) {u:U} {v:V} (ru:aJ K H M u v):cO K H M (kvs.map fun kv=>if kv.1=k then (kv.1,u) else kv) (ws.map fun kv=>if kv.1=k then (kv.1,v) else kv):=by
 unfold cO at r ⊢
 induction r with
 | nil=>exact .nil
 | @cons p q ps qs h t ih =>
  rw [List.map_cons,List.map_cons]
  refine .cons ?_ ih
  obtain ⟨h1,h2⟩:=h
  by_cases e:p.1=k
  ·rw [if_pos e,if_pos (h1.symm.trans e)];exact ⟨h1,ru⟩
  ·rw [if_neg e,if_neg (fun z=>e (h1.trans z))];exact ⟨h1,h2⟩
theorem cO.put {kvs:List (κ × U)} {ws:List (κ × V)} (r:cO K H M kvs ws) (k:κ) {u:U} {v:V} (ru:aJ K H M u v):cO K H M (gI kvs k u) (putK ws k v):=by
 unfold gI putK
 rw [r.any k]
 split
 ·exact r.repl k ru
 ·exact Paired.snoc r ⟨rfl,ru⟩
theorem cO.length {kvs:List (κ × U)} {ws:List (κ × V)} (r:cO K H M kvs ws):kvs.length=ws.length:=Paired.length r
theorem CZ:∀ {ws:List (κ × V)} {us:List U},aK K H M us (ws.map (·.2))->cO K H M ((ws.map (·.1)).zip us) ws
 | [],us,r=>by
  have:=r.length
  cases us with
  | nil=>exact .nil
  | cons _ _=>simp at this
 | w :: ws,us,r=>by
  cases us with
  | nil=>have:=r.length;simp at this
  | cons u us =>
   obtain ⟨v,vs',e,a,b⟩:=r.inv_cons
   rw [List.map_cons] at e
   cases e
   exact .cons ⟨rfl,a⟩ (CZ b)
end
def B7:List Key->Key
 | [k]=>k
 | _=>.inl 0
def iZ (M:aF):U->Option MO
 | .ref a=>M a
 | .dic ks true us=>some (.dT (ks.zip us))
 | .dic ks false us=>some (.dK ((ks.map B7).zip us))
 | _=>none
section
variable {K:PySem.W.Frag} {H:Hp} {M:aF} {x y:U} {v u:V}
theorem K9 {kvs:List (Key × U)} (rm:RelM K H M) (r:aJ K H M x v) (e:iZ M x=some (.dK kvs)):∃ a ws,v=.ref a/\Rd H a (.dK ws)/\cO K H M kvs ws:=by
 cases x with
 | ref a=>obtain ⟨ws,h1,h2⟩:=rm a _ e;exact ⟨a,ws,r.ref,.inl h1,h2⟩
 | dic ks tk us =>
  cases tk with
  | true=>cases e
  | false =>
   simp only [iZ] at e
   cases e
   simp only [aJ] at r
   obtain ⟨a,vs,rfl,m,⟨ws,h1,rfl,rfl⟩,ru⟩:=r
   refine ⟨a,ws,rfl,h1,?_⟩
   have e1:(ws.map (fun p=>[p.1])).map B7=ws.map (·.1):=by rw [List.map_map];rfl
   rw [e1];exact CZ ru
 | _=>cases e
theorem LC {kvs:List (List Key × U)} (rm:RelM K H M) (r:aJ K H M x v) (e:iZ M x=some (.dT kvs)):∃ a ws,v=.ref a/\Rd H a (.dT ws)/\cO K H M kvs ws:=by
 cases x with
 | ref a=>obtain ⟨ws,h1,h2⟩:=rm a _ e;exact ⟨a,ws,r.ref,.inl h1,h2⟩
 | dic ks tk us =>
  cases tk with
  | false=>cases e
  | true =>
   simp only [iZ] at e
   cases e
   simp only [aJ] at r
   obtain ⟨a,vs,rfl,m,⟨ws,h1,rfl,rfl⟩,ru⟩:=r
   exact ⟨a,ws,rfl,h1,CZ ru⟩
 | _=>cases e
theorem vM {ys:List U} {ks:List Key} (hk:jS K) (r:aJ K H M (.tup ys) u) (e:jP ys=some ks):∃ b,u=.ref b/\H b=some (.tup (ks.map kV)):=by
 simp only [aJ] at r
 obtain ⟨b,vs,rfl,h,ru⟩:=r
 have:=Bm ru e
 subst this
 exact ⟨b,rfl,h.2⟩
def fF (tk:Bool) (M:aF) (x y:U):Option (Option U):=match tk with
 | false=>match iZ M x,nP y with
  | some (.dK kvs),some k=>some (cU kvs k)
  | _,_=>none
 | true=>match iZ M x,y with
  | some (.dT kvs),.tup ys=>(jP ys).map (cU kvs)
  | _,_=>none
theorem vE {tk:Bool} {o:Option U} (hk:tk=true->jS K) (rm:RelM K H M) (rx:aJ K H M x v) (ry:aJ K H M y u) (e:fF tk M x y=some o):∃ a ov,v=.ref a/\sO H a u ov/\sV K H M o ov:=by
 cases tk with
 | false =>
  simp only [fF] at e
  split at e
  ·rename_i kvs k e1 e2
   cases e
   obtain ⟨a,ws,rfl,h1,h2⟩:=K9 rm rx e1
   have:=sE ry e2
   subst this
   exact ⟨a,_,rfl,.inl ⟨_,k,h1,rfl,rfl⟩,h2.val k⟩
  ·cases e
 | true =>
  simp only [fF] at e
  split at e
  ·rename_i kvs ys e1
   obtain ⟨a,ws,rfl,h1,h2⟩:=LC rm rx e1
   cases e3:jP ys with
   | none=>rw [e3] at e;cases e
   | some ks =>
    rw [e3] at e;cases e
    obtain ⟨b,rfl,hb⟩:=vM (hk rfl) ry e3
    exact ⟨a,_,rfl,.inr ⟨_,ks,b,h1,rfl,hb,rfl⟩,h2.val ks⟩
  ·cases e
end
def bK (tk:Bool):dR:=fun x y M Q=>match fF tk M x y with
 | some (some u)=>Q u M
 | _=>False
def Lq:R2:=fun x y H Q=>∃ a v,x=.ref a/\sO H a y (some v)/\Q v H
theorem Jg {K:PySem.W.Frag} {tk:Bool} (hk:tk=true->jS K):dS K Lq (bK tk):=fun x y u w H M Q' rm ru rw h Q c=>by
 unfold bK at h
 split at h
 ·rename_i z e
  obtain ⟨a,ov,rfl,g,r⟩:=vE hk rm ru rw e
  cases ov with
  | none=>exact r.elim
  | some v=>exact ⟨a,v,rfl,g,c.here rm r h⟩
 ·exact h.elim
section
variable {D:Dat} {a b c e o i:Expr} {ta tb tc te to ti:UE} {pos p:Pos} {es:List Expr} {tas:UA} {x:Str}
theorem Ad {K:PySem.W.Frag}:false=true->jS K:=fun h=>by cases h
theorem iR (tk:Bool) (hk:tk=true->jS D.K) (ha:bB D a ta) (hb:bB D b tb) (hs:Kh b:=by intro _ _;rfl):bB D (.Subscript a b pos) (kO (bK tk) ta tb):=by
 obtain ⟨_,p,s⟩:=ha;obtain ⟨_,q,r⟩:=hb
 exact ⟨Ed Lq _ _,fun X h=>MK (By h.room) (p X h) (q X h) hs,vG (Jg hk) s r⟩
def PR (neg:Bool):R2:=fun y x H Q=>∃ a o,x=.ref a/\sO H a y o/\Q (.bl (if neg then !o.isSome else o.isSome)) H
def cQ (tk neg:Bool):dR:=fun y x M Q=>match fF tk M x y with
 | some o=>Q (.bl (if neg then !o.isSome else o.isSome)) M
 | none=>False
theorem sV.isSome_eq {K:PySem.W.Frag} {H:Hp} {M:aF} {o:Option U} {ov:Option V} (r:sV K H M o ov):o.isSome=ov.isSome:=by
 cases o <;> cases ov <;> first | rfl | exact r.elim
theorem Mq {K:PySem.W.Frag} {tk neg:Bool} (hk:tk=true->jS K):dS K (PR neg) (cQ tk neg):=fun x y u w H M Q' rm ru rw h Q c=>by
 unfold cQ at h
 split at h
 ·rename_i o e
  obtain ⟨a,ov,rfl,g,r⟩:=vE hk rm rw ru e
  refine ⟨a,ov,rfl,g,?_⟩
  rw [<- r.isSome_eq]
  exact c.here rm dI h
 ·exact h.elim
theorem Ic {X:Cx} {k:Nat} (hr:eN k X.A):dD X (compareOp .NotIn) (PR true):=by
 intro pins s σ H x y v u Q I rx ry h
 obtain ⟨a,o,rfl,g,q⟩:=h
 cases ry
 exact NK (By hr) I g rx fun s' I'=>⟨.bl (!o.isSome),H,I',rfl,q⟩
theorem Ju (tk:Bool) (hk:tk=true->jS D.K):lP D .NotIn (cQ tk true):=⟨⟨_,fun X h=>Ic h.room,Mq hk⟩⟩
def IG (tk:Bool):MO:=if tk then .dT [] else .dK []
def bQ (tk:Bool):UE:=fun _ M Q=>∀ p,M p=none->Q (.ref p) (mup M p (IG tk))
theorem wA (tk:Bool):bB D (.Dict [] [] pos) (bQ tk):=by
 cases tk with
 | false =>
  refine ⟨Gv,fun X h=>IS,fun σ τ H M Q' rs rm h Q c p hp=>?_⟩
  have st:aS H M (upd H p (.dK [])) (mup M p (.dK [])):=aS.own rm hp
  exact c (.ref p) _ _ _ st (rm.put st ⟨[],cT,.nil⟩) lI (h p (rm.no hp))
 | true =>
  refine ⟨HM,fun X h=>Ki,fun σ τ H M Q' rs rm h Q c p hp=>?_⟩
  have st:aS H M (upd H p (.dT [])) (mup M p (.dT [])):=aS.own rm hp
  exact c (.ref p) _ _ _ st (rm.put st ⟨[],cT,.nil⟩) lI (h p (rm.no hp))
def zW (tk:Bool) (te to ti:UE):US:=fun D τ M=>te τ M fun v M1=>to τ M1 fun x M2=>ti τ M2 fun y M3=>match x with
 | .ref a=>match tk with
  | false=>match M3 a,nP y with
   | some (.dK kvs),some k=>kvs.length < sizeLine/\D.nx τ (mup M3 a (.dK (gI kvs k v)))
   | _,_=>False
  | true=>match M3 a,y with
   | some (.dT kvs),.tup ys=>match jP ys with
    | some ks=>kvs.length < sizeLine/\D.nx τ (mup M3 a (.dT (gI kvs ks v)))
    | none=>False
   | _,_=>False
 | _=>False
theorem vN (tk:Bool) (hk:tk=true->jS D.K) {tpos:Pos} (he:bB D e te) (ho:bB D o to) (hi:bB D i ti) (hs:∀ env,swapsWith e (some (.Subscript o i tpos)) pos.line env=pure false:=by intro _;rfl):qF D (.Assign [.Subscript o i tpos] e pos) (zW tk te to ti):=by
 obtain ⟨_,p1,s1⟩:=he;obtain ⟨_,p2,s2⟩:=ho;obtain ⟨_,p3,s3⟩:=hi
 refine ⟨_,fun X h=>NA (By h.room) (p2 X h) (p3 X h) (p1 X h) (hs _),fun σ τ H M D' rs rm h EE d=>?_⟩
 refine s1 σ τ H M _ rs rm h _ fun v vv M1 H1 st1 rm1 rv h1=>?_
 refine s2 σ τ H1 M1 _ (rs.stp st1) rm1 h1 _ fun x vx M2 H2 st2 rm2 rx h2=>?_
 refine s3 σ τ H2 M2 _ ((rs.stp st1).stp st2) rm2 h2 _ fun y vy M3 H3 st3 rm3 ry h3=>?_
 have rv3:=(rv.stp st2).stp st3
 have rs3:=((rs.stp st1).stp st2).stp st3
 cases x with
 | ref a =>
  cases (rx.stp st3).ref
  cases tk with
  | false =>
   dsimp only at h3
   split at h3
   ·rename_i kvs k e1 e2
    obtain ⟨hl,q⟩:=h3
    obtain ⟨ws,hv,r⟩:=rm3 a _ e1
    have:=sE ry e2
    subst this
    have st4:aS H3 M3 (upd H3 a (.dK (putK ws k vv))) (mup M3 a (.dK (gI kvs k v))):=aS.write e1
    have rnew:RelM D.K (upd H3 a (.dK (putK ws k vv))) (mup M3 a (.dK (gI kvs k v))):=rm3.put st4 ⟨_,cT,(r.put k rv3).stp st4⟩
    exact ⟨a,_,rfl,.k hv (by rw [<- r.length];exact hl),d.nx _ _ _ _ (((st1.trans st2).trans st3).trans st4) rnew (rs3.stp st4) q⟩
   ·exact h3.elim
  | true =>
   dsimp only at h3
   split at h3
   ·rename_i kvs ys e1
    split at h3
    ·rename_i ks e2
     obtain ⟨hl,q⟩:=h3
     obtain ⟨ws,hv,r⟩:=rm3 a _ e1
     obtain ⟨b,rfl,hb⟩:=vM (hk rfl) ry e2
     have st4:aS H3 M3 (upd H3 a (.dT (putK ws ks vv))) (mup M3 a (.dT (gI kvs ks v))):=aS.write e1
     have rnew:RelM D.K (upd H3 a (.dT (putK ws ks vv))) (mup M3 a (.dT (gI kvs ks v))):=rm3.put st4 ⟨_,cT,(r.put ks rv3).stp st4⟩
     exact ⟨a,_,rfl,.t hv hb (by rw [<- r.length];exact hl),d.nx _ _ _ _ (((st1.trans st2).trans st3).trans st4) rnew (rs3.stp st4) q⟩
    ·exact h3.elim
   ·exact h3.elim
 | _=>exact h3.elim
def AK (M:aF) (x:U):Bool:=match iZ M x with
 | some (.dK _)=>true
 | some (.dT _)=>true
 | _=>false
theorem KZ {K:PySem.W.Frag} {H:Hp} {M:aF} {x:U} {v:V} (rm:RelM K H M) (r:aJ K H M x v) (e:AK M x=true):∃ a,v=.ref a/\N0 H a:=by
 unfold AK at e
 split at e
 ·rename_i kvs h
  obtain ⟨a,ws,rfl,h1,_⟩:=K9 rm r h
  exact ⟨a,rfl,.inl ⟨ws,h1⟩⟩
 ·rename_i kvs h
  obtain ⟨a,ws,rfl,h1,_⟩:=LC rm r h
  exact ⟨a,rfl,.inr ⟨ws,h1⟩⟩
 ·cases e
theorem sV.getD {K:PySem.W.Frag} {H:Hp} {M:aF} {o:Option U} {ov:Option V} {u:U} {v:V} (r:sV K H M o ov) (q:aJ K H M u v):aJ K H M (o.getD u) (ov.getD v):=by
 cases o <;> cases ov <;> first | exact q | exact r | exact r.elim
def bJ (tk:Bool) (to ti:UE):UE:=fun τ M Q=>to τ M fun x M1=>AK M1 x=true/\ti τ M1 fun y M2=>match fF tk M2 x y with
 | some o=>Q (o.getD .non) M2
 | none=>False
theorem Cc (tk:Bool) (hk:tk=true->jS D.K) {apos:Pos} (ho:bB D o to) (hi:bB D e te) (hbase:∀ env,attributeBase o "get" env (eval o env)=eval o env:=by intro _;rfl)
  (hfew:∀ env,((backTo pos (starEach [e] env)).all (fun x=>!x.1) && (backToKw pos (keywordEach [] env)).all (fun x=>x.1.isSome) && decide ([e].length + ([]:List Keyword).length + (if ([]:List Keyword).isEmpty then 0 else 1) < 30))=true:=by intro _;rfl)
  (hline:(apos.endLine == pos.line)=true:=by rfl) (hs:∀ env,backTo pos (starEach [e] env)=[(false,eval e env)]:=by intro _;rfl):bB D (.Call (.Attribute o "get" apos) [e] [] pos) (bJ tk to te):=by
 obtain ⟨_,p1,s1⟩:=ho;obtain ⟨_,p2,s2⟩:=hi
 refine ⟨_,fun X h=>KW (By h.room) (p1 X h) (p2 X h) ⟨hbase _,hfew _,hline,hs _⟩,fun σ τ H M Q' rs rm h Q c=>?_⟩
 refine s1 σ τ H M _ rs rm h _ fun x vx M1 H1 st1 rm1 rx h1=>?_
 obtain ⟨hd,h1⟩:=h1
 obtain ⟨a,rfl,hd⟩:=KZ rm1 rx hd
 refine ⟨a,rfl,hd,s2 σ τ H1 M1 _ (rs.stp st1) rm1 h1 _ fun y vy M2 H2 st2 rm2 ry h2=>?_⟩
 split at h2
 ·rename_i o e
  obtain ⟨a',ov,e',g,r⟩:=vE hk rm2 (rx.stp st2) ry e
  cases e'
  exact ⟨ov,g,c _ _ M2 H2 (st1.trans st2) rm2 (r.getD mV) h2⟩
 ·exact h2.elim
end
end U2
namespace L2
open PySem PySem.Spec PyProof.Rows
abbrev eF:=List Key × Key
abbrev rD (H:Hp):List (eF × V)->List (eF × Addr × Value)->Prop:=Paired fun p q=>p.1=q.1/\(∃ c,H q.2.1=some (.tup [.ref c,kV p.1.2])/\H c=some (.tup (p.1.1.map kV)))/\RelV p.2 q.2.2
theorem rD.val {H:Hp} {kvs:List (eF × V)} {xs:List (eF × Addr × Value)} (r:rD H kvs xs) (k:eF):l7 (kW kvs k) ((atKey xs k).map (·.2)):=by
 induction r with
 | nil=>exact True.intro
 | @cons p q ps qs h t ih =>
  obtain ⟨h1,_,h2⟩:=h
  by_cases e:p.1=k
  ·have e':q.1=k:=h1.symm.trans e
   have b:atKey (q :: qs) k=some q.2:=by simp [atKey,List.find?_cons,e']
   rw [jD e,b];exact h2
  ·have e':¬ q.1=k:=fun z=>e (h1.trans z)
   have b:atKey (q :: qs) k=atKey qs k:=by simp [atKey,List.find?_cons,e']
   rw [jA e,b];exact ih
theorem rD.repl {H:Hp} {kvs:List (eF × V)} {xs:List (eF × Addr × Value)} (r:rD H kvs xs) (k:eF) {y:V} {u:Value} (ry:RelV y u) :
  rD H (kvs.map fun kv=>if kv.1=k then (kv.1,y) else kv) (xs.map (putAt k u)):=by
 induction r with
 | nil=>exact .nil
 | @cons p q ps qs h t ih =>
  rw [List.map_cons,List.map_cons]
  refine .cons ?_ ih
  obtain ⟨h1,h2,h3⟩:=h
  unfold putAt
  by_cases e:p.1=k
  ·rw [if_pos e,if_pos (h1.symm.trans e)];exact ⟨h1,h2,ry⟩
  ·rw [if_neg e,if_neg (fun z=>e (h1.trans z))];exact ⟨h1,h2,h3⟩
theorem rD.put {H:Hp} {kvs:List (eF × V)} {xs:List (eF × Addr × Value)} (r:rD H kvs xs) (k:eF) {b:Addr} {y:V} {u:Value} (hb:∃ c,H b=some (.tup [.ref c,kV k.2])/\H c=some (.tup (k.1.map kV))) (ry:RelV y u) :
  rD H (putK kvs k y) (storedH xs k b u):=by
 have e:(kvs.any fun kv=>decide (kv.1=k))=(atKey xs k).isSome:=by
  rw [uO,(r.val k).isSome_eq,Option.isSome_map]
 unfold putK storedH
 rw [e]
 by_cases q:(atKey xs k).isSome=true
 ·rw [if_pos q,if_pos q];exact r.repl k ry
 ·rw [if_neg q,if_neg q];exact Paired.snoc r ⟨rfl,hb,ry⟩
theorem rD.keeps {H H':Hp} {kvs:List (eF × V)} {xs:List (eF × Addr × Value)} (r:rD H kvs xs) (ht:∀ b ys,H b=some (.tup ys)->H' b=some (.tup ys)):rD H' kvs xs :=
 Paired.mapP r fun _ _ z=>⟨z.1,let ⟨c,h1,h2⟩:=z.2.1;⟨c,ht _ _ h1,ht _ _ h2⟩,z.2.2⟩
section
variable {P:Program} {w:World} {H:Hp} {h:Heap} {a:Addr}
theorem vO {k:eF} {c:Addr} (ok:gE P w H h) (e:H a=some (.tup [.ref c,kV k.2])) (e2:H c=some (.tup (k.1.map kV))):(lJ (cF P w)).is h k a:=by
 obtain ⟨_,its,r,o,h1,h2,_,n,h3⟩:=(show cK P w H h a (.tup [.ref c,kV k.2]) from ok a _ e)
 obtain ⟨u1,u2,rfl,r1,r2⟩:∃ u1 u2,its=[u1,u2]/\RelV (.ref c) u1/\RelV (kV k.2) u2:=by
  cases r with
  | cons p q=>cases q with
   | cons p' q'=>cases q';exact ⟨_,_,rfl,p,p'⟩
 cases (show u1=Value.ref c from r1)
 exact ⟨o,n,c,u2,h1,h2,h3,pN ok e2,wD r2⟩
theorem Fs {kvs:List (eF × V)} (ok:gE P w H h) (e:H a=some (.dN kvs)):kvs.length<=sizeLine/\(a == sysModules)=false /\
  ∃ xs,rD H kvs xs/\h.DictOfH (lJ (cF P w)) a xs:=by
 obtain ⟨z,y,xs,r,o,es,ep,h1,h2,h3,h4,h5⟩:=(show cK P w H h a (.dN kvs) from ok a _ e)
 refine ⟨z,y,xs,r,o,es,ep,h1,h2,h3,h4,fun x hx=>?_,h5⟩
 have all:∀ {l:List (eF × V)} {m:List (eF × Addr × Value)},rD H l m->∀ x∈m,(lJ (cF P w)).is h x.1 x.2.1:=by
  intro l m q
  induction q with
  | nil=>intro x hx;exact nomatch hx
  | @cons p q ps qs hq t ih =>
   intro x hx
   rcases List.mem_cons.mp hx with e | hx
   ·subst e
    obtain ⟨e1,⟨c,e2,e3⟩,_⟩:=hq
    rw [e1] at e2 e3
    exact vO ok e2 e3
   ·exact ih x hx
 exact all r x hx
end
def Bz (H:Hp) (a:Addr) (y:V) (r:Option V):Prop:=∃ kvs k b c,H a=some (.dN kvs)/\y=.ref b/\H b=some (.tup [.ref c,kV k.2])/\H c=some (.tup (k.1.map kV))/\r=kW kvs k
def Lu (H:Hp) (a:Addr) (y v:V) (H':Hp):Prop:=∃ (kvs:List (eF × V)) (k:eF) (b c:Addr),H a=some (.dN kvs)/\y=.ref b/\H b=some (.tup [.ref c,kV k.2])/\H c=some (.tup (k.1.map kV))/\kvs.length < sizeLine/\H'=upd H a (.dN (putK kvs k v))
section
variable {X:Cx} {pins:List (Addr × Obj)} {σ:St} {H:Hp} {s:Shared} {a:Addr} {y v:V} {o:Option V} {u r:Value} {A:Around} {E:Value->Shared->Prop}
theorem Qv {Q:Value->Shared->Prop} (hu:A.units + 2 < cLine) (I:Inv X pins σ H s) (g:Bz H a y o) (ry:RelV y u) (h:∀ s',Inv X pins σ H s'->Q (.bool o.isSome) s') :
  wpAny (model X.prog X.w) A (compareOp .In u (.ref a)) Q E s:=by
 obtain ⟨kvs,k,b,c,e,ey,eb,ec,l⟩:=g
 subst ey
 cases (show u=Value.ref b from ry)
 obtain ⟨z,hd,xs,rel,dd⟩:=Fs I.hok e
 refine wpAny_in_heap (show (lJ (cF X.prog X.w)).room A.in1 from hu) (vO I.hok eb ec) hd dd ?_
 have q:=(rel.val k).isSome_eq
 rw [Option.isSome_map] at q
 rw [<- q,<- l]
 exact h _ (I.tok _)
theorem JH {Q:Value->Shared->Prop} (hu:A.units + 2 < cLine) (I:Inv X pins σ H s) (g:Bz H a y o) (ry:RelV y u) (h:∀ s',Inv X pins σ H s'->Q (.bool (!o.isSome)) s') :
  wpAny (model X.prog X.w) A (compareOp .NotIn u (.ref a)) Q E s:=by
 obtain ⟨kvs,k,b,c,e,ey,eb,ec,l⟩:=g
 subst ey
 cases (show u=Value.ref b from ry)
 obtain ⟨z,hd,xs,rel,dd⟩:=Fs I.hok e
 refine wpAny_notIn_heap (show (lJ (cF X.prog X.w)).room A.in1 from hu) (vO I.hok eb ec) hd dd ?_
 have q:=(rel.val k).isSome_eq
 rw [Option.isSome_map] at q
 rw [<- q,<- l]
 exact h _ (I.tok _)
theorem FC {H':Hp} {Q:Unit->Shared->Prop} (hu:A.units + 2 < cLine) (I:Inv X pins σ H s) (g:Lu H a y v H') (ry:RelV y u) (rv:RelV v r) (h:∀ s',Inv X pins σ H' s'->Q () s') :
  wpAny (model X.prog X.w) A (setItem (.ref a) u r) Q E s:=by
 obtain ⟨kvs,k,b,c,e,ey,eb,ec,l,eH⟩:=g
 subst ey eH
 cases (show u=Value.ref b from ry)
 obtain ⟨z,hd,xs,rel,dd⟩:=Fs I.hok e
 have hz:xs.length<=sizeLine:=by rw [<- Paired.length rel];exact z
 have hl:(putK kvs k v).length<=sizeLine:=by have:=nA kvs k v;omega
 refine wpAny_setItem_heap (hsz:=hz) (show (lJ (cF X.prog X.w)).room A.in1 from hu) (vO I.hok eb ec) dd fun h' dd' hs=>h _ ?_
 obtain ⟨q,es,ep,hq,h2,h3,h4,_,h5⟩:=dd'
 refine zZ I (by rw [e];exact True.intro) hs ⟨q,hq⟩ ⟨hl,hd,_,(rel.put k ⟨c,eb,ec⟩ rv).keeps fun c ys ec=>?_,q,es,ep,hq,h2,h3,h4,h5⟩
 rw [bL (Ly ec e (fun z=>nomatch z))]
 exact ec
end
section
variable {X:Cx} {o i e value:Expr} {pos pos':Pos} {td ty tv:TE}
def P4 (td ty tv:TE):TS:=fun D σ H=>tv σ H fun v H1=>td σ H1 fun x H2=>ty σ H2 fun y H3=>∃ a H4,x=.ref a/\Lu H3 a y v H4/\D.nx σ H4
theorem Ku (hu:X.A.units + 2 < cLine) (ho:PE X o td) (hi:PE X i ty) (hv:PE X value tv) (hs:swapsWith value (some (.Subscript o i pos')) pos.line X.env=pure false) :
  PS X (.Assign [.Subscript o i pos'] value pos) (P4 td ty tv):=by
 intro pins s σ H D I h
 refine wpAny_Assign_Subscript (bE (hv pins s σ H _ I h) fun r s1 ⟨v,H1,I1,rv,q1⟩=>bE (ho pins s1 σ H1 _ I1 q1) fun u s2 ⟨x,H2,I2,rx,q2⟩=>bE (hi pins s2 σ H2 _ I2 q2) fun iv s3 ⟨y,H3,I3,ry,a,H4,ex,g,q3⟩=>?_) hs
 subst ex
 obtain rfl:u=Value.ref a:=rx
 exact FC hu I3 g ry rv fun s4 I4=>⟨σ,H4,I4,q3⟩
theorem K5 {P:Program} {w:World} {H:Hp} (h:Heap) (hb:sysModules < h.objs.size):cK P w H (h.push { cls:=.type "dict",data:=.dict #[] }) h.objs.size (.dN []):=by
 have:=CA (P:=P) (w:=w) (H:=H) h hb
 obtain ⟨z,y,xs,r,ob,es,ep,e1,e2,e3,e4,e5⟩:=this
 cases r
 exact ⟨z,y,[],.nil,ob,es,ep,e1,e2,e3,e4,List.nodup_nil⟩
def HB:TE:=fun _ H Q=>∀ p,H p=none->Q (.ref p) (upd H p (.dN []))
theorem IV:PE X (.Dict [] [] pos) HB:=fun pins s σ H Q I h =>
 wpAny_Dict_empty ⟨.ref s.heap.objs.size,_,I.laid (a:=s.heap.objs.size) (o:=.dN []) (t':=s.toks) (fun _ _ q=>Heap.get?_push_of_some _ q) (Nat.le_refl _) (K5 s.heap I.big),rfl,h _ (I.hok.fresh (Nat.le_refl _))⟩
end
end L2
namespace U2
open PySem PySem.Spec PyProof.Rows L2
theorem Co {k:Nat} {A:Around} (h:eN k A):A.units + 2 < cLine:=Nat.lt_of_le_of_lt (Nat.add_le_add_left (by decide:2<=64) _) h.units
def w5:U->Option eF
 | .tup [.tup ys,z]=>match jP ys,nP z with
  | some ks,some k=>some (ks,k)
  | _,_=>none
 | _=>none
theorem ES {K:PySem.W.Frag} {H:Hp} {M:aF} {y:U} {u:V} {k:eF} (r:aJ K H M y u) (e:w5 y=some k):∃ b c,u=.ref b/\H b=some (.tup [.ref c,kV k.2])/\H c=some (.tup (k.1.map kV)):=by
 unfold w5 at e
 split at e
 ·rename_i ys z
  split at e
  ·rename_i ks k' e1 e2
   cases e
   simp only [aJ] at r
   obtain ⟨b,vs,rfl,h,ru⟩:=r
   obtain ⟨v1,r1,rfl,a1,ru⟩:=ru.inv_cons
   obtain ⟨v2,r2,rfl,a2,ru⟩:=ru.inv_cons
   have:=ru.inv_nil
   subst this
   have:=sE a2 e2
   subst this
   obtain ⟨c,rfl,hc⟩:=vM (show jS K from True.intro) a1 e1
   exact ⟨b,c,rfl,h.2,hc⟩
  ·cases e
 ·cases e
def rV (M:aF) (x y:U):Option (Option U):=match x with
 | .ref a=>match M a,w5 y with
  | some (.dN kvs),some k=>some (cU kvs k)
  | _,_=>none
 | _=>none
theorem FE {K:PySem.W.Frag} {H:Hp} {M:aF} {x y:U} {v u:V} {o:Option U} (rm:RelM K H M) (rx:aJ K H M x v) (ry:aJ K H M y u) (e:rV M x y=some o):∃ a ov,v=.ref a/\Bz H a u ov/\sV K H M o ov:=by
 unfold rV at e
 split at e
 ·rename_i a
  split at e
  ·rename_i kvs k e1 e2
   cases e
   cases rx.ref
   obtain ⟨ws,hv,r⟩:=rm a _ e1
   obtain ⟨b,c,rfl,hb,hc⟩:=ES ry e2
   exact ⟨a,_,rfl,⟨ws,k,b,c,hv,rfl,hb,hc,rfl⟩,r.val k⟩
  ·cases e
 ·cases e
def E8 (neg:Bool):R2:=fun y x H Q=>∃ a o,x=.ref a/\Bz H a y o/\Q (.bl (if neg then !o.isSome else o.isSome)) H
def vY (neg:Bool):dR:=fun y x M Q=>match rV M x y with
 | some o=>Q (.bl (if neg then !o.isSome else o.isSome)) M
 | none=>False
theorem BK {K:PySem.W.Frag} {neg:Bool}:dS K (E8 neg) (vY neg):=fun x y u w H M Q' rm ru rw h Q c=>by
 unfold vY at h
 split at h
 ·rename_i o e
  obtain ⟨a,ov,rfl,g,r⟩:=FE rm rw ru e
  refine ⟨a,ov,rfl,g,?_⟩
  rw [<- r.isSome_eq]
  exact c.here rm dI h
 ·exact h.elim
theorem Np {X:Cx} {k:Nat} (hr:eN k X.A):dD X (compareOp .In) (E8 false):=by
 intro pins s σ H x y v u Q I rx ry h
 obtain ⟨a,o,rfl,g,q⟩:=h
 cases ry
 exact Qv (Co hr) I g rx fun s' I'=>⟨.bl o.isSome,H,I',rfl,q⟩
theorem Fv {X:Cx} {k:Nat} (hr:eN k X.A):dD X (compareOp .NotIn) (E8 true):=by
 intro pins s σ H x y v u Q I rx ry h
 obtain ⟨a,o,rfl,g,q⟩:=h
 cases ry
 exact JH (Co hr) I g rx fun s' I'=>⟨.bl (!o.isSome),H,I',rfl,q⟩
section
variable {D:Dat} {a b e o i:Expr} {ta tb te to ti:UE} {pos:Pos}
theorem Ol:lP D .In (vY false):=⟨⟨_,fun X h=>Np h.room,BK⟩⟩
theorem IH:lP D .NotIn (vY true):=⟨⟨_,fun X h=>Fv h.room,BK⟩⟩
def Gz:UE:=fun _ M Q=>∀ p,M p=none->Q (.ref p) (mup M p (.dN []))
theorem KP:bB D (.Dict [] [] pos) Gz:=by
 refine ⟨HB,fun X h=>IV,fun σ τ H M Q' rs rm h Q c p hp=>?_⟩
 have st:aS H M (upd H p (.dN [])) (mup M p (.dN [])):=aS.own rm hp
 exact c (.ref p) _ _ _ st (rm.put st ⟨[],cT,.nil⟩) lI (h p (rm.no hp))
def Hz (te to ti:UE):US:=fun D τ M=>te τ M fun v M1=>to τ M1 fun x M2=>ti τ M2 fun y M3=>match x with
 | .ref a=>match M3 a,w5 y with
  | some (.dN kvs),some k=>kvs.length < sizeLine/\D.nx τ (mup M3 a (.dN (gI kvs k v)))
  | _,_=>False
 | _=>False
theorem Kk {tpos:Pos} (he:bB D e te) (ho:bB D o to) (hi:bB D i ti) (hs:∀ env,swapsWith e (some (.Subscript o i tpos)) pos.line env=pure false:=by intro _;rfl):qF D (.Assign [.Subscript o i tpos] e pos) (Hz te to ti):=by
 obtain ⟨_,p1,s1⟩:=he;obtain ⟨_,p2,s2⟩:=ho;obtain ⟨_,p3,s3⟩:=hi
 refine ⟨_,fun X h=>Ku (Co h.room) (p2 X h) (p3 X h) (p1 X h) (hs _),fun σ τ H M D' rs rm h EE d=>?_⟩
 refine s1 σ τ H M _ rs rm h _ fun v vv M1 H1 st1 rm1 rv h1=>?_
 refine s2 σ τ H1 M1 _ (rs.stp st1) rm1 h1 _ fun x vx M2 H2 st2 rm2 rx h2=>?_
 refine s3 σ τ H2 M2 _ ((rs.stp st1).stp st2) rm2 h2 _ fun y vy M3 H3 st3 rm3 ry h3=>?_
 have rv3:=(rv.stp st2).stp st3
 have rs3:=((rs.stp st1).stp st2).stp st3
 cases x with
 | ref a =>
  cases (rx.stp st3).ref
  dsimp only at h3
  split at h3
  ·rename_i kvs k e1 e2
   obtain ⟨hl,q⟩:=h3
   obtain ⟨ws,hv,r⟩:=rm3 a _ e1
   obtain ⟨b,c,rfl,hb,hc⟩:=ES ry e2
   have st4:aS H3 M3 (upd H3 a (.dN (putK ws k vv))) (mup M3 a (.dN (gI kvs k v))):=aS.write e1
   have rnew:RelM D.K (upd H3 a (.dN (putK ws k vv))) (mup M3 a (.dN (gI kvs k v))):=rm3.put st4 ⟨_,cT,(r.put k rv3).stp st4⟩
   exact ⟨a,_,rfl,⟨ws,k,b,c,hv,rfl,hb,hc,by rw [<- r.length];exact hl,rfl⟩,d.nx _ _ _ _ (((st1.trans st2).trans st3).trans st4) rnew (rs3.stp st4) q⟩
  ·exact h3.elim
 | _=>exact h3.elim
end
end U2
namespace U2
open PySem PySem.Spec PyProof.Rows L2
open AutoSeq1 (wpAny_loadPart')
open MeetsSeq MeetsSeq2 MeetsSeq3 SeqRoads2
theorem Bp (l:Addr) (items:Array Value) (n:Nat) (dd:Option Addr) (sl:Array (Option Value)) (x:Value) (e:Value->Bool) (j:Nat) (hj:j < items.size) (hit:e items[j]=true) (hno:∀ m (hm:m < items.size),m < j->e items[m]=false) :
  Meets (Builtin.«tuple.index» ⟨[.ref l,x],[]⟩)
   (fun A R s=>s.heap.get? l=some { cls:=.type "tuple",dict:=dd,data:=.seq items n,slots:=sl }/\(∀ y,y∈items->SeqAt.EqAt A.in1 s y x (e y))/\R (.ok (.ret (.int j s.toks))) { s with toks:=s.toks + 1 }) :=
 .of_wp fun prog w A R s h=>by
  obtain ⟨hp,g,d,tk,os⟩:=s;obtain ⟨hl,he,h⟩:=h
  wp_walk using wpAny_loadPart' hl
  change wpAny (model prog w) A.in1 (forIn [:min items.size items.size] ((none,()):Option Fin × Unit) (fun (i:Nat) (_:Option Fin × Unit)=>(match items[i]? with
   | some y=>(do
     let b <- eqBool y x
     if b=true then (do
      let r <- retInt (i:Int)
      pure (ForInStep.done ((some r,()):Option Fin × Unit)))
     else pure (ForInStep.yield ((none,()):Option Fin × Unit)))
   | _=>pure (ForInStep.yield ((none,()):Option Fin × Unit)):Sem (ForInStep (Option Fin × Unit))))) _ _ _
  rw [Std.Legacy.Range.forIn_eq_forIn_range']
  simp only [Std.Legacy.Range.size,Nat.sub_zero,Nat.add_sub_cancel,Nat.div_one,Nat.min_self]
  refine wpAny_forIn_list _ (fun rest b s'=>b.1=none/\s'=⟨hp,g,d,tk,os⟩/\∃ i,i<=j/\rest=List.range' i (items.size - i)) _ ?_ ?_ _ _ ⟨rfl,rfl,0,Nat.zero_le _,by simp⟩
  ·rintro y rest b s' ⟨hb,rfl,i,hi,hr⟩
   have hlt:i < items.size:=by omega
   obtain ⟨rfl,hrest⟩:y=i/\rest=List.range' (i + 1) (items.size - (i + 1)):=by
    have e:items.size - i=(items.size - (i + 1)) + 1:=by omega
    rw [e,List.range'_succ] at hr
    injection hr with h1 h2
    exact ⟨h1,h2⟩
   rw [Array.getElem?_eq_getElem hlt]
   refine wpAny_bind (he _ (Array.getElem_mem hlt) prog w _ _ ?_)
   by_cases hij:y=j
   ·subst hij
    rw [hit]
    wp_walk
    exact ⟨_,rfl,h⟩
   ·rw [hno y hlt (by omega)]
    wp_walk
    exact ⟨rfl,rfl,y + 1,by omega,hrest⟩
  ·rintro b s' ⟨hb,rfl,i,hi,hr⟩
   have:items.size - i=0:=by
    have:=congrArg List.length hr
    simp at this;omega
   omega
def EI (K:PySem.W.Frag):V->List V->Hp->VK->Prop:=fun x vs H Q=>∃ p xs y j,x=.ref p/\vs=[y]/\eW K H p xs/\kK y=true/\xs.all kK=true/\(∃ z,xs[j]?=some z/\qE z y=true)/\(∀ m z,m < j->xs[m]?=some z->qE z y=false)/\Q (.int (j:Nat)) H
theorem GL {X:Cx}:PD X "tuple.index" (EI X.K):=by
 intro pins s σ H x vs v us Q I rx rv h
 obtain ⟨p,xs,y,j,rfl,rfl,hq,fy,fs,⟨z,hz1,hz2⟩,hno,q⟩:=h
 cases rx
 obtain ⟨u,rfl,ru⟩:=rv.one
 obtain ⟨its,r,pl,hz⟩:=I.tupleP hq
 obtain ⟨⟨cls,dd,data,sl⟩,ho,hc,_,n,hd⟩:=pl
 simp only at hc hd
 subst hc hd
 have hl:=r.length
 have hj:j < xs.length:=(List.getElem?_eq_some_iff.mp hz1).1
 have hji:j < its.toArray.size:=by rw [List.size_toArray];omega
 have at_:∀ (m:Nat) (hm:m < its.toArray.size) z,xs[m]?=some z->nJ y its.toArray[m]=qE z y:=fun m hm z e=>by
  obtain ⟨w',h1,h2⟩:=r.get e
  have:its.toArray[m]=w':=by
   have h3:its[m]?=some w':=h1
   have hm':m < its.length:=by simpa using hm
   rw [List.getElem?_eq_getElem hm'] at h3
   simpa using Option.some.inj h3
  rw [this]
  exact BM h2 (by
   have:=List.all_eq_true.mp fs z (List.mem_of_getElem? e)
   exact this)
 refine call_meets F.slot_tuple_index ⟨_,ho,rfl⟩ F.entry_tuple_index (F.args_tuple_index_2 _ _)
  (Bp p its.toArray n dd sl u (nJ y) j hji (by rw [at_ j hji z hz1];exact hz2) (fun m hm hmj=>?_)) ⟨ho,fun w' hw=>mH ru fy r fs w' (by simpa using hw),?_⟩
 ·have hx:xs[m]?=some xs[m]:=by simp [show m < xs.length by omega]
  rw [at_ m hm _ hx]
  exact hno m _ hmj hx
 ·exact ⟨.int j,H,I.tok _,⟨_,rfl⟩,q⟩
def O8 (K:PySem.W.Frag) (r:V->List V->Hp->VK->Prop) (to:TE) (t:TA):TE:=fun σ H Q=>to σ H fun x H1=>(∃ a xs,x=.ref a/\eW K H1 a xs)/\t σ H1 fun xs H2=>r x xs H2 Q
theorem Oo {X:Cx} {o e:Expr} {es:List Expr} {to:TE} {t:TA} {name:Str} {apos cpos:Pos} {id:String} {r:V->List V->Hp->VK->Prop} (pa:PlainAttrs "tuple") (slot:Slot "tuple" name id) (hty:typeOf (.builtin id)=pure (.type "method_descriptor")) (hm:QP X id r) (ho:PE X o to) (ha:PA X (e :: es) t)
  (hbase:attributeBase o name X.env (eval o X.env)=eval o X.env)
  (hfew:((backTo cpos (starEach (e :: es) X.env)).all (fun x=>!x.1) && (backToKw cpos (keywordEach [] X.env)).all (fun x=>x.1.isSome)
   && decide ((e :: es).length + ([]:List Keyword).length + (if ([]:List Keyword).isEmpty then 0 else 1) < 30))=true)
  (hline:(apos.endLine == cpos.line)=true) (hs:starEach (e :: es) X.env=(false,eval e X.env) :: starEach es X.env) (hplain:(backTo cpos (starEach es X.env)).any (·.1)=false) :
  PE X (.Call (.Attribute o name apos) (e :: es) [] cpos) (O8 X.K r to t):=by
 intro pins s σ H Q I h
 refine wpAny_Call_method_late hbase hfew hline rfl (bE (ho pins s σ H _ I h) fun v s1 ⟨x,H1,I1,r1,⟨a,xs,e1,sq⟩,q1⟩=>?_)
 subst e1
 cases r1
 obtain ⟨its,_,⟨ob,g1,g2,g3,_⟩,_⟩:=I1.tupleP sq
 refine ⟨"tuple",id,pa,slot,hty,⟨ob,g1,g2⟩,(fun b eb=>by cases eb;exact ⟨ob,g1,g3⟩),?_⟩
 have hA:=ha cpos pins s1 σ H1 _ I1 q1
 rw [hs] at hA ⊢
 refine Calls.callWith_builtin (by show (false || (backTo cpos (starEach es X.env)).any (·.1))=false;rw [hplain] <;> rfl) (Calls.evalArgs_plain ?_)
 exact bE hA fun us s2 ⟨vs,H2,I2,r2,q2⟩=>hm pins s2 σ H2 (.ref a) vs (.ref a) us Q I2 rfl r2 q2
def Rr (x:U):Prop:=∃ us,x=.tup us
def Ac (r:U->List U->aF->UK->Prop) (to:UE) (t:UA):UE:=fun τ M Q=>to τ M fun x M1=>Rr x/\t τ M1 fun xs M2=>r x xs M2 Q
theorem Nc {K:PySem.W.Frag} {r:V->List V->Hp->VK->Prop} {r':U->List U->aF->UK->Prop} {to:TE} {to':UE} {t:TA} {t':UA} (hr:zL K r r') (ho:cI K to to') (h:kE K t t') :
  cI K (O8 K r to t) (Ac r' to' t'):=fun σ τ H M Q' rs rm q Q c =>
 ho σ τ H M _ rs rm q _ fun u v M1 H1 s1 rm1 ru h1=>by
  obtain ⟨⟨us,rfl⟩,h1⟩:=h1
  obtain ⟨a,vs,rfl,sq,_⟩:=ru.tup
  exact ⟨⟨a,vs,rfl,sq⟩,h σ τ H1 M1 _ (rs.stp s1) rm1 h1 _ fun us' vs' M2 H2 s2 rm2 rus h2=>hr _ vs' _ us' H2 M2 Q' rm2 (ru.stp s2) rus h2 Q (eE.stp c (s1.trans s2))⟩
def mF:U->List U->aF->UK->Prop:=fun x ws M Q=>match x,ws with
 | .tup us,[.str w]=>∃ (ss:List Str) (j:Nat),sG us=some ss/\ss[j]?=some w/\(∀ m z,m < j->ss[m]?=some z->z≠w)/\Q (.int (j:Nat)) M
 | _,_=>False
theorem Gn {K:PySem.W.Frag}:zL K (EI K) mF:=fun x xs u us H M Q' rm ru rus h Q c=>by
 unfold mF at h
 split at h
 ·rename_i ws w
  obtain ⟨ss,j,h1,h2,h3,h4⟩:=h
  obtain ⟨a,vs,rfl,s2,r2⟩:=ru.tup
  rw [Be r2 h1] at s2
  obtain ⟨v,rfl,a1⟩:=rus.one
  cases a1.str
  refine ⟨a,_,_,j,rfl,rfl,s2,rfl,by simp [kK],⟨.str w,by rw [List.getElem?_map,h2];rfl,by simp [qE]⟩,fun m z hm hz=>?_,c.here rm eJ h4⟩
  rw [List.getElem?_map] at hz
  cases e3:ss[m]? with
  | none=>rw [e3] at hz;cases hz
  | some y =>
   rw [e3] at hz
   cases hz
   have:=h3 m y hm e3
   simp [qE,this]
 ·exact h.elim
theorem qG {D:Dat} {o e:Expr} {ta:UE} {tas:UA} {pos apos:Pos} (ho:bB D o ta) (ha:lZ D [e] tas) (hbase:∀ env,attributeBase o "index" env (eval o env)=eval o env:=by intro _;rfl)
  (hfew:∀ env,((backTo pos (starEach [e] env)).all (fun x=>!x.1) && (backToKw pos (keywordEach [] env)).all (fun x=>x.1.isSome) && decide ([e].length + ([]:List Keyword).length + (if ([]:List Keyword).isEmpty then 0 else 1) < 30))=true:=by intro _;rfl)
  (hline:(apos.endLine == pos.line)=true:=by rfl) (hs:∀ env,starEach [e] env=[(false,eval e env)]:=by intro _;rfl):bB D (.Call (.Attribute o "index" apos) [e] [] pos) (Ac mF ta tas):=by
 obtain ⟨_,p,s⟩:=ho;obtain ⟨_,q,r⟩:=ha
 refine ⟨_,fun X h=>?_,Nc Gn s r⟩
 have:=Oo (cpos:=pos) (apos:=apos) PySem.F.plainAttrs_tuple PySem.F.slot_tuple_index PySem.F.type_tuple_index GL (p X h) (q X h) (hbase _) (hfew _) hline (hs _) (by rfl)
 rw [h.K] at this
 exact this
end U2
namespace L2
open PySem PySem.Spec PyProof.Rows PySem.F
def v5 (h:Heap) (d:Addr) (es:Array DictEntry) (ep:Nat):Prop:=∃ o,h.get? d=some o/\o.ExactDict/\o.data=.dict es ep
theorem v5.ty {s:Shared} {d:Addr} {es:Array DictEntry} {ep:Nat} (r:v5 s.heap d es ep):s.TypeIs (.ref d) "dict":=let ⟨o,e,c,_⟩:=r;⟨o,e,c.1⟩
section
variable {prog:Program} {w:World} {A:Around} {E:Value->Shared->Prop} {s:Shared} {d it vw:Addr} {es:Array DictEntry} {ep i:Nat} {e:DictEntry}
theorem Jp {Q:Value->Shared->Prop} (lo:(d == sysModules)=false) (r:v5 s.heap d es ep)
  (q:Q (.ref s.heap.objs.size) { s with heap:=s.heap.push { cls:=.type "dict_keyiterator",data:=.fields #[.ref d,.int 0 0,.int es.size 0,.int ep 0] } }):wpAny (model prog w) A (pyIter (.ref d)) Q E s:=by
 obtain ⟨o,g,c,dd⟩:=id r
 refine wpAny_pyIter_slot r.ty slot_dict_iter (wpAny_call_entry slot_dict_iter r.ty entry_dict_iter ?_ (args_dict_iter_1 _))
 unfold Builtin.«dict.__iter__»;refine wpAny_bind ?_
 unfold Builtin.Dict.dictSlotNone;refine wpAny_bind (wpAny_notOrdered_dict r.ty ?_)
 show wpAny (model prog w) _ (pure (Value.ref d)) _ _ s;refine wpAny_pure ?_
 show wpAny (model prog w) _ (Builtin.Dict.showsAll d >>= _) _ _ s;unfold Builtin.Dict.showsAll
 rw [if_neg (by rw [lo];decide)];refine wpAny_bind (wpAny_pure (wpAny_bind (wpAny_dictEntries g dd (wpAny_bind (wpAny_dictEpoch g dd ?_)))))
 refine wpAny_bind (wpAny_newObj_type (wpAny_pure ⟨_,rfl,"dict_keyiterator",_,⟨_,Heap.get?_push_size _ rfl,rfl⟩,slot_dict_keyiterator_next.lookup,?_⟩))
 simpa [rawInt] using q
theorem J6 {Q:Option Value->Shared->Prop} (hit:s.heap.IsKeyIter it d i es.size ep) (r:v5 s.heap d es ep) (hx:es[i]?=some e)
  (q:∀ h',h'.IsKeyIter it d (i + 1) es.size ep->Heap.SameBut it s.heap h'->Q (some e.key) { s with heap:=h' }):wpAny (model prog w) A (pyNext (.ref it)) Q E s:=by
 obtain ⟨oi,gi,ci,di⟩:=id hit
 obtain ⟨o,g,c,dd⟩:=id r
 have T:=hit.typeIs
 have lt:i < es.size:=(Array.getElem?_eq_some_iff.mp hx).1
 unfold pyNext
 refine wpAny_bind (wpAny_attempt (wpAny_callSpecial?_slot (name:=Str.ofString "__next__") T slot_dict_keyiterator_next (wpAny_call_entry slot_dict_keyiterator_next T entry_dict_keyiterator_next ?_ (args_dict_keyiterator_next_1 _))))
 refine wpAny_bind (wpAny_pure (wpAny_bind (wpAny_bind ?_)))
 first | refine wpAny_bind (wpAny_typeNameOfWhole_keyiter T (wpAny_pure (wpAny_bind (wpAny_fieldsOf gi di ?_)))) | refine wpAny_bind (wpAny_typeNameOf_keyiter T (wpAny_pure (wpAny_bind (wpAny_fieldsOf gi di ?_))))
 simp only [show Builtin.Dict_items.ownsTuple "dict_keyiterator"=false by decide,Bool.false_eq_true,if_false]
 show wpAny (model prog w) _ (if (Value.ref d == Value.none)=true then _ else _) _ _ s
 rw [if_neg (show ¬ ((Value.ref d == Value.none)=true) from Bool.false_ne_true)];refine wpAny_bind (wpAny_pure (wpAny_bind (wpAny_dictEntries g dd ?_)))
 rw [if_neg (by simp)];refine wpAny_bind (wpAny_pure (wpAny_bind (wpAny_dictEpoch g dd ?_)));rw [if_neg (by simp)];refine wpAny_pure ?_
 simp only [show ¬ ((i:Int) < 0) by omega,if_false,Int.toNat_natCast,hx];refine wpAny_bind ?_
 first | refine wpAny_bind (wpAny_typeNameOfWhole_keyiter T (wpAny_pure (wpAny_bind (wpAny_isOneOf_keyiter T ?_)))) | refine wpAny_bind (wpAny_typeNameOf_keyiter T (wpAny_pure (wpAny_bind (wpAny_isOneOf_keyiter T ?_))))
 show wpAny (model prog w) _ (setField (.ref it) 1 (rawInt ((i:Int) + 1)) >>= _) _ _ s
 refine wpAny_bind (wpAny_setField gi di (by simp) ?_)
 have hit':(s.heap.update it (Obj.mapFields (·.setIfInBounds 1 (rawInt ((i:Int) + 1))))).IsKeyIter it d (i + 1) es.size ep :=
  ⟨_,Heap.get?_update_self _ gi (Obj.isFreed_of_fields (Obj.data_mapFields di _)),(Obj.cls_mapFields ..).trans ci,by rw [Obj.data_mapFields di];simp [rawInt]⟩
 refine wpAny_bind (wpAny_holding (wpAny_bind (wpAny_isOneOf_keyiter (s:={ s with heap:=s.heap.update it (Obj.mapFields (·.setIfInBounds 1 (rawInt ((i:Int) + 1)))) }) hit'.typeIs ?_)))
 show wpAny (model prog w) _ (pure e.key) _ _ _
 exact wpAny_pure (wpAny_pure ⟨_,rfl,wpAny_pure (q _ hit' (Heap.SameBut.update ..))⟩)
theorem Mg {Q:Option Value->Shared->Prop} (hh:A.handled=none) (hit:s.heap.IsKeyIter it d i es.size ep) (r:v5 s.heap d es ep) (hx:es[i]?=none)
  (q:∀ h',Heap.ExtBut it s.heap h'->Q none { s with heap:=h' }):wpAny (model prog w) A (pyNext (.ref it)) Q E s:=by
 obtain ⟨oi,gi,ci,di⟩:=id hit
 obtain ⟨o,g,c,dd⟩:=id r
 have T:=hit.typeIs
 unfold pyNext
 refine wpAny_bind (wpAny_attempt (wpAny_callSpecial?_slot (name:=Str.ofString "__next__") T slot_dict_keyiterator_next (wpAny_call_entry slot_dict_keyiterator_next T entry_dict_keyiterator_next ?_ (args_dict_keyiterator_next_1 _))))
 refine wpAny_bind (wpAny_pure (wpAny_bind (wpAny_bind ?_)))
 first | refine wpAny_bind (wpAny_typeNameOfWhole_keyiter T (wpAny_pure (wpAny_bind (wpAny_fieldsOf gi di ?_)))) | refine wpAny_bind (wpAny_typeNameOf_keyiter T (wpAny_pure (wpAny_bind (wpAny_fieldsOf gi di ?_))))
 simp only [show Builtin.Dict_items.ownsTuple "dict_keyiterator"=false by decide,Bool.false_eq_true,if_false]
 show wpAny (model prog w) _ (if (Value.ref d == Value.none)=true then _ else _) _ _ s
 rw [if_neg (show ¬ ((Value.ref d == Value.none)=true) from Bool.false_ne_true)];refine wpAny_bind (wpAny_pure (wpAny_bind (wpAny_dictEntries g dd ?_)))
 rw [if_neg (by simp)];refine wpAny_bind (wpAny_pure (wpAny_bind (wpAny_dictEpoch g dd ?_)));rw [if_neg (by simp)];refine wpAny_pure ?_
 simp only [show ¬ ((i:Int) < 0) by omega,if_false,Int.toNat_natCast,hx];refine wpAny_bind ?_
 first | refine wpAny_bind (wpAny_typeNameOfWhole_keyiter T (wpAny_pure ?_)) | refine wpAny_bind (wpAny_typeNameOf_keyiter T (wpAny_pure ?_))
 show wpAny (model prog w) _ (setField (.ref it) 0 .none >>= _) _ _ s
 refine wpAny_bind (wpAny_setField gi di (by simp) ?_)
 show wpAny (model prog w) _ (newExc (.type "StopIteration") [] >>= _) _ _ _
 refine wpAny_bind ?_;simp only [newExc,newTuple];refine wpAny_bind (wpAny_newObj_type ?_ (by size_fits))
 refine wpAny_bind (m:=firstArgMember _ _) (wpAny_of_eq (a:=Value.none) (by first | rfl | (simp only [firstArgMember];rfl)) (wpAny_newObj_type ?_ (by size_fits)))
 simp only [raiseNew];refine wpAny_bind (wpAny_handled ?_);rw [show A.in1.handled=none from hh]
 refine wpAny_bind (wpAny_pure (wpAny_throw ?_));refine wpAny_bind (wpAny_isInstance (T:="StopIteration") (b:=true) ⟨_,Heap.get?_push_size _ rfl,rfl⟩ isSubtype_stop ?_)
 exact wpAny_pure (q _ (((Heap.SameBut.update ..).extBut.push _).push _))
end
end L2
namespace U2
open PySem PySem.Spec PyProof.Rows L2
theorem DG {M:Model} {A:Around} {E:Value->Shared->Prop} {s:Shared} {scope:Scope} {env:Env} {cl:List (Str × Addr)} {x0:Str} {g:Addr} {q:Str} {Q:Env->Shared->Prop} (hcf:∀ a cl,cellsFrom a scope.names cl=(x0,a) :: cl) (hpc:∀ h,pushCells h scope.names=h.push { cls:=.type "cell",data:=.cell none })
  (hQ:Q { scope:=scope,locals:=s.heap.objs.size,globals:=g,cells:=(x0,s.heap.objs.size + 1) :: cl,qual:=q,func:=none,code:=env.code,frame:=env.frame,builtins:=env.builtins } { s with heap:=(s.heap.push { cls:=.type "dict",data:=.dict #[] }).push { cls:=.type "cell",data:=.cell none } }) :
  wpAny M A (newFunctionEnv scope g cl [] q none .none (some env)) Q E s:=by
 simp only [newFunctionEnv,Option.isSome_some,if_true]
 refine wpAny_bind (wpAny_alloc ?_)
 refine wpAny_bind (wpAny_layCells _ (fun name kind cells=>by cases hkc:kind == NameKind.cell <;> simp [hkc]) _ _ _ _ ?_)
 rw [hcf,hpc]
 have hz:(s.heap.push { cls:=.type "dict",data:=.dict #[] }).objs.size=s.heap.objs.size + 1:=Heap.size_push ..
 simp only [List.forIn_nil]
 refine wpAny_bind (wpAny_pure (wpAny_pure ?_))
 rw [show ({ s with heap:=s.heap.push { cls:=.type "dict",data:=.dict #[] } }:Shared).heap.objs.size=s.heap.objs.size + 1 from hz]
 exact hQ
def gL (X:Cx) (N:List Str) (scope:Scope) (cl:List (Str × Addr)) (C:Addr) (s:Shared) (H:Hp) (fp:List Addr) (x0:Str):Cx:={ eA X N scope cl C s H fp with fn:=fun y=>decide (y=x0) }
theorem Fc {X:Cx} {x0:Str} {tg elt iter:Expr} {ifs:List Expr} {scope:Scope} {pos:Pos} {N:List Str} {k:Nat} {ix:List Nat} {wi:TI} {g:TG} {tc:TT} {te:TE}
  (hc:X.calm=true) (hi:PI X tg iter wi) (gk:GK k g)
  (hk:scope.kind=.function) (hcell:∀ y∈scope.names,y.2=.cell->y.1=x0) (hx0:scope.names.lookup x0=some .cell) (hcf:∀ a cl,cellsFrom a scope.names cl=(x0,a) :: cl) (hpc:∀ h,pushCells h scope.names=h.push { cls:=.type "cell",data:=.cell none }) (hnames:∀ y∈scope.names,y.2=.local->scope.names.lookup y.1=some .local)
  (hfree:∀ y∈scope.names,y.2=.free->X.env.kindOf y.1=some .cell\/X.env.kindOf y.1=some .free)
  (hone:∀ y∈scope.names,y.2=.free->scope.names.lookup y.1=some .free)
  (hN:∀ (j:Nat) x,N[k + j]?=some x->∃ i,ix[j]?=some i/\X.N[i]?=some x)
  (hcap:∀ (j:Nat) x,N[k + j]?=some x->scope.names.lookup x=some .free)
  (hlen:N.length=k + ix.length)
  (hg:∀ cl C s H fp,PG (gL X N scope cl C s H fp x0) tg g)
  (hif:∀ cl C s H fp,BF (gL X N scope cl C s H fp x0) ifs tc)
  (he:∀ cl C s H fp,PE (gL X N scope cl C s H fp x0) elt te)
  (hs:∀ x,foldedSetIterable iter X.env x=pure x) {pins:List (Addr × Obj)} {s:Shared} {σ:L2.St} {H:Hp} {Q:VK} (I:L2.Inv X pins σ H s) (h:vU k ix wi g tc te σ H Q) {pos':Pos} {use:Option (Value->Sem Unit)} {QQ:Value->Shared->Prop}
  (end_:∀ (D C:Addr) (H3:Hp) (s4:Shared),L2.Inv X pins σ H3 s4->(∃ m,s4.heap.Ns C m)->H3 C=none->C≠X.env.locals->X.s₀.heap.objs.size<=C->(∀ x c,X.env.cells.lookup x=some c->c≠C)->(∀ p∈X.pn++pins,p.1≠C) ->
   (∀ h':Heap,Heap.SameBut C s4.heap h'->L2.Inv X pins σ H3 { s4 with heap:=h' })->Q (.ref D) H3->compPost (model X.prog X.w) X.A X.xe use QQ (.ref D) C (.ok .next) s4) :
  wpAny (model X.prog X.w) X.A (comprehension (.ListComp elt [⟨tg,iter,ifs,0⟩] scope pos) scope X.env pos' (newList []) false (eval iter X.env) use) QQ X.xe s:=by
 obtain ⟨cl,hclos,hcl,hcl2⟩:=yV (env:=X.env) (scope:=scope) (fun x hx e=>I.ok.has x.1 (hfree x hx e))
 refine wpAny_comprehension_free (use:=use) rfl hs hclos hk hnames (bE (hi pins s σ H _ I h) fun v s1 h1=>bE h1 fun itv s2 h2=>?_)
 obtain ⟨it,fp,tn,J,H2,rfl,I2,T,st2,f2,h2⟩:=h2
 refine wpAny_newObj_type (DG hcf hpc ?_)
 dsimp only
 generalize hP:s2.heap.push { cls:=.type "list",dict:=none,data:=.seq ([]:List Value).toArray }=P2
 have hns₀:(P2.push { cls:=.type "dict",data:=.dict #[] }).Ns P2.objs.size (fun _=>none):=Heap.Ns.new P2 (.type "dict")
 have hsz0:(P2.push { cls:=.type "dict",data:=.dict #[] }).objs.size=P2.objs.size + 1:=Heap.size_push ..
 generalize hh₁:(P2.push { cls:=.type "dict",data:=.dict #[] }).push { cls:=.type "cell",data:=.cell none }=h₁
 have hns₁:h₁.Ns P2.objs.size (fun _=>none):=by rw [<- hh₁];exact hns₀.keeps fun b o e=>Heap.get?_push_of_some _ e
 have hcel:h₁.get? (P2.objs.size + 1)=some { cls:=.type "cell",data:=.cell none }:=by
  rw [<- hh₁,<- hsz0];exact Heap.get?_push_size _ rfl
 have ext:∀ b o,P2.get? b=some o->h₁.get? b=some o:=fun b o e=>by rw [<- hh₁];exact Heap.get?_push_of_some _ (Heap.get?_push_of_some _ e)
 have hCs:P2.objs.size=s2.heap.objs.size + 1:=by rw [<- hP,Heap.size_push]
 have below:∀ b,b < s2.heap.objs.size->b≠P2.objs.size:=fun b hb=>by rw [hCs];omega
 have old:∀ b o,s2.heap.get? b=some o->h₁.get? b=some o:=fun b o e=>ext b o (hP ▸ Heap.get?_push_of_some _ e)
 have below':∀ b,b < s2.heap.objs.size->b≠P2.objs.size + 1:=fun b hb=>by rw [hCs];omega
 have cls:∀ x c,((x0,P2.objs.size + 1) :: cl).lookup x=some c->(x=x0/\c=P2.objs.size + 1)\/(x≠x0/\cl.lookup x=some c):=fun x c e=>by
  rw [List.lookup_cons] at e
  by_cases h:x=x0
  ·subst h;simp only [beq_self_eq_true] at e;exact .inl ⟨rfl,(Option.some.inj e).symm⟩
  ·have hb:(x == x0)=false:=by simpa using h
   rw [hb] at e;exact .inr ⟨h,e⟩
 have clne:∀ x,x≠x0->((x0,P2.objs.size + 1) :: cl).lookup x=cl.lookup x:=fun x h=>by
  have hb:(x == x0)=false:=by simpa using h
  rw [List.lookup_cons,hb]
 have hacc:h₁.get? s2.heap.objs.size=some { cls:=.type "list",dict:=none,data:=.seq ([]:List Value).toArray }:=ext _ _ (hP ▸ Heap.get?_push_size _ rfl)
 obtain ⟨W,⟨m0,w0⟩,turn⟩:=h2 s2.heap.objs.size (I2.hok.fresh (Nat.le_refl _))
 have fpl:∀ b∈fp,b < s2.heap.objs.size:=fun b hb=>let ⟨o,e,_⟩:=T.obj _ _ st2 b hb;Heap.lt_size e
 have σl:(cY k ix σ).length=N.length:=by rw [hlen];simp [cY]
 have i2:=I2.ok
 have ok':(gL X N scope ((x0,P2.objs.size + 1) :: cl) P2.objs.size s2 H2 fp x0).Ok:=by
  refine ⟨i2.mod,hk,i2.glob,i2.blt,(by show s2.heap.objs.size<=P2.objs.size;rw [hCs];exact Nat.le_succ _),(fun x y c e1 e2=>?inj),fun x hx=>?_,(fun x c e e2=>?cab),i2.hd,i2.frames,.inl rfl,fun b hb=>?_,fun b o e=>I2.bs b o e,Nat.le_trans i2.bsz I2.sz,fun b o e hb=>?_,fun b hb hb2=>?_,I2.stack,I2.stkFree⟩
  case inj =>
   rcases cls x c e1 with ⟨a1,b1⟩ | ⟨a1,b1⟩ <;> rcases cls y c e2 with ⟨a2,b2⟩ | ⟨a2,b2⟩
   ·rw [a1,a2]
   ·exfalso
    obtain ⟨v,o,ho,_⟩:=I2.cell y c (hcl y c b2)
    exact below' c (Heap.lt_size ho) b1
   ·exfalso
    obtain ⟨v,o,ho,_⟩:=I2.cell x c (hcl x c b1)
    exact below' c (Heap.lt_size ho) b2
   ·exact i2.inj x y c (hcl x c b1) (hcl y c b2)
  case cab =>
   rcases cls x c e2 with ⟨a1,b1⟩ | ⟨a1,b1⟩
   ·rw [b1];show s2.heap.objs.size<=_;rw [hCs];omega
   ·exact absurd (of_decide_eq_true e) a1
  ·
   have hx':(relabel scope X.env).names.lookup x=some .cell\/(relabel scope X.env).names.lookup x=some .free:=hx
   have key:∀ (names:List (Str × NameKind)),(∀ y∈names,y.2=.cell->y.1=x0)->((names.map fun (n,k)=>if (k == NameKind.free && X.env.scope.kind == .function && X.env.kindOf n == some .cell) then (n,NameKind.cell) else (n,k)).lookup x=some .cell \/
     (names.map fun (n,k)=>if (k == NameKind.free && X.env.scope.kind == .function && X.env.kindOf n == some .cell) then (n,NameKind.cell) else (n,k)).lookup x=some .free)->x=x0\/(x,NameKind.free)∈names:=by
    intro names
    induction names with
    | nil=>intro _ h;rcases h with h | h <;> cases h
    | cons y r ih =>
     obtain ⟨n,kd⟩:=y
     intro hnc h
     by_cases hxn:x=n
     ·subst hxn
      by_cases hkc0:kd=.cell
      ·exact .inl (hnc (x,kd) List.mem_cons_self hkc0)
      have hkc:kd≠.cell:=hkc0
      by_cases hkf:kd=.free
      ·subst hkf;exact .inr List.mem_cons_self
      ·exfalso
       have hb:(kd == NameKind.free)=false:=by simpa using hkf
       simp only [List.map_cons,hb,Bool.false_and,Bool.false_eq_true,if_false,List.lookup_cons,beq_self_eq_true] at h
       rcases h with h | h
       ·exact hkc (Option.some.inj h)
       ·exact hkf (Option.some.inj h)
     ·have hb:(x == n)=false:=by simpa using hxn
      refine (ih (fun y hy=>hnc y (List.mem_cons_of_mem _ hy)) ?_).imp_right fun z=>List.mem_cons_of_mem _ z
      have e1:∀ z:NameKind,List.lookup x (((n,z)) :: (r.map fun (n,k)=>if (k == NameKind.free && X.env.scope.kind == .function && X.env.kindOf n == some .cell) then (n,NameKind.cell) else (n,k)))=List.lookup x (r.map fun (n,k)=>if (k == NameKind.free && X.env.scope.kind == .function && X.env.kindOf n == some .cell) then (n,NameKind.cell) else (n,k)):=fun z=>by rw [List.lookup_cons,hb]
      rw [List.map_cons] at h
      dsimp only at h
      split at h
      ·rw [e1] at h;exact h
      ·rw [e1] at h;exact h
   rcases key scope.names hcell hx' with hxx | hxx
   ·exact ⟨P2.objs.size + 1,by show ((x0,P2.objs.size + 1) :: cl).lookup x=_;rw [hxx,List.lookup_cons];simp⟩
   ·by_cases hne:x=x0
    ·exact ⟨P2.objs.size + 1,by show ((x0,P2.objs.size + 1) :: cl).lookup x=_;rw [hne,List.lookup_cons];simp⟩
    ·obtain ⟨c,hc⟩:=hcl2 x hxx
     exact ⟨c,by show ((x0,P2.objs.size + 1) :: cl).lookup x=_;rw [clne x hne];exact hc⟩
  ·exact ⟨below b (fpl b hb),fun x c e=>by
    rcases cls x c e with ⟨_,b1⟩ | ⟨_,b1⟩
    ·rw [b1];exact fun z=>below' b (fpl b hb) z.symm
    ·exact (f2 b hb).2.2.2.2.1 x c (hcl x c b1)⟩
  ·rcases (f2 b hb).2.2.2.1 with z | z
   ·exact i2.noex b o e z
   ·exact absurd (Nat.lt_of_lt_of_le (Heap.lt_size e) (Nat.le_trans i2.bsz z)) (Nat.lt_irrefl _)
  ·rcases List.mem_cons.mp (I2.stkSub b hb2) with z | z
   ·exact (f2 b hb).2.1 z
   ·exact (f2 b hb).2.2.1 z
 have stat:∀ {H':Hp},(∀ b∈fp,H' b=none)->∀ b∈fp,qP (gL X N scope ((x0,P2.objs.size + 1) :: cl) P2.objs.size s2 H2 fp x0) [] H' b:=fun hn b hb =>
  ⟨hn b hb,below b (fpl b hb),fun z=>ok'.exfs b hb z,.inl hb,fun x c e=>by
    rcases cls x c e with ⟨_,b1⟩ | ⟨_,b1⟩
    ·rw [b1];exact fun z=>below' b (fpl b hb) z.symm
    ·exact (f2 b hb).2.2.2.2.1 x c (hcl x c b1),(fun p hp=>by cases hp)⟩
 have hD:H2 s2.heap.objs.size=none:=I2.hok.fresh (Nat.le_refl _)
 have relf:∀ x,scope.names.lookup x=some .free->(X.env.kindOf x=some .cell\/X.env.kindOf x=some .free)->((relabel scope X.env).names.lookup x=some .cell\/(relabel scope X.env).names.lookup x=some .free):=by
  intro x hx hkx
  have key:∀ (names:List (Str × NameKind)),names.lookup x=some .free->((names.map fun (n,k)=>if (k == NameKind.free && X.env.scope.kind == .function && X.env.kindOf n == some .cell) then (n,NameKind.cell) else (n,k)).lookup x=some .cell \/
    (names.map fun (n,k)=>if (k == NameKind.free && X.env.scope.kind == .function && X.env.kindOf n == some .cell) then (n,NameKind.cell) else (n,k)).lookup x=some .free):=by
   intro names
   induction names with
   | nil=>intro h;cases h
   | cons y r ih =>
    obtain ⟨n,kd⟩:=y
    intro h
    rw [List.lookup_cons] at h
    by_cases hxn:x=n
    ·subst hxn
     simp only [beq_self_eq_true] at h
     cases h
     rw [List.map_cons]
     dsimp only
     split
     ·left;simp [List.lookup_cons]
     ·right;simp [List.lookup_cons]
    ·have hb:(x == n)=false:=by simpa using hxn
     rw [hb] at h
     have:=ih h
     rw [List.map_cons]
     dsimp only
     split
     ·rw [List.lookup_cons,hb];exact this
     ·rw [List.lookup_cons,hb];exact this
  exact key scope.names hx
 have Istart:∀ tk,Inv (gL X N scope ((x0,P2.objs.size + 1) :: cl) P2.objs.size s2 H2 fp x0) [] (cY k ix σ) (upd H2 s2.heap.objs.size (.lst [])) { s2 with heap:=h₁,toks:=tk }:=fun tk=>by
  refine ⟨ok',rfl,I2.bare,Un.laid old (Nat.le_refl _) hD,⟨_,hns₁,fun i x v e1 e2 e3=>?_⟩,fun x c e=>?_,?_,fun x c e=>?_,(fun p hp=>by cases hp),I2.hok.laid old (Nat.le_refl _) ⟨Nat.zero_le _,[],_,.nil,hacc⟩,σl⟩
  ·by_cases hik:i < k
   ·exfalso
    unfold cY at e2
    rw [List.getElem?_append_left (by simpa using hik),List.getElem?_replicate] at e2
    split at e2 <;> cases e2
   ·have ej:i=k + (i - k):=by omega
    have e1':N[k + (i - k)]?=some x:=by rw [<- ej];exact e1
    obtain ⟨i0,hi0,hXN⟩:=hN (i - k) x e1'
    have hfx:=hcap (i - k) x e1'
    have hmem:(x,NameKind.free)∈scope.names:=PySem.mem_of_lookup hfx
    have hkx:=hfree _ hmem rfl
    have e4:σ[i0]?=some (some v):=by
     unfold cY at e2
     rw [List.getElem?_append_right (by simpa using Nat.le_of_not_lt hik),List.getElem?_map] at e2
     simp only [List.length_replicate,hi0,Option.map_some,Option.some.injEq] at e2
     cases z:σ[i0]? with
     | none=>rw [z] at e2;cases e2
     | some y=>rw [z] at e2;simp only [Option.getD_some] at e2;rw [e2]
    obtain ⟨m2,hn2,hl2⟩:=I2.loc
    obtain ⟨u,ru,lk⟩:=hl2 i0 x v hXN e4 (by rcases hkx with z | z;exact .inr (.inl z);exact .inr (.inr z))
    rcases lk with ⟨z,_⟩ | ⟨_,c,hc1,hc2⟩
    ·exfalso
     have z':X.env.kindOf x=some .local:=z
     rcases hkx with y | y <;> (rw [z'] at y;cases y)
    ·obtain ⟨c',hc'⟩:=hcl2 x hmem
     have e5:=hcl x c' hc'
     rw [hc1] at e5;cases e5
     obtain ⟨o,ho,hd⟩:=hc2
     have hne:x≠x0:=fun z=>by rw [z,hx0] at hfx;cases hfx
     exact ⟨u,ru,.inr ⟨relf x hfx hkx,c,by show ((x0,P2.objs.size + 1) :: cl).lookup x=_;rw [clne x hne];exact hc',o,old _ _ ho,hd⟩⟩
  ·rcases cls x c e with ⟨_,b1⟩ | ⟨_,b1⟩
   ·rw [b1];exact ⟨none,_,hcel,rfl⟩
   ·obtain ⟨v,o,ho,hd⟩:=I2.cell x c (hcl x c b1)
    exact ⟨v,o,old _ _ ho,hd⟩
  ·show upd H2 s2.heap.objs.size (.lst []) P2.objs.size=none
   rw [bL (show P2.objs.size≠s2.heap.objs.size by rw [hCs];exact Nat.succ_ne_self _)]
   exact I2.hok.fresh (show s2.heap.objs.size<=P2.objs.size by rw [hCs];exact Nat.le_succ _)
  ·rcases cls x c e with ⟨_,b1⟩ | ⟨_,b1⟩
   ·have hne:P2.objs.size + 1≠s2.heap.objs.size:=by rw [hCs];omega
    have hle:s2.heap.objs.size<=P2.objs.size + 1:=by rw [hCs];omega
    rw [b1,bL hne]
    exact I2.hok.fresh hle
   ·have e':=hcl x c b1
    obtain ⟨v,o,ho,hd⟩:=I2.cell x c e'
    rw [bL (Nat.ne_of_lt (Heap.lt_size ho))]
    exact I2.freeC x c e'
 have st1:tn 0 h₁:=T.keep 0 _ _ st2 fun b hb o e=>old b o e
 have fr1:∀ b∈fp,upd H2 s2.heap.objs.size (.lst []) b=none:=fun b hb=>by rw [bL (Nat.ne_of_lt (fpl b hb))];exact (f2 b hb).1
 have fin:∀ (H3:Hp) (s4:Shared),Inv (gL X N scope ((x0,P2.objs.size + 1) :: cl) P2.objs.size s2 H2 fp x0) [] (cY k ix σ) H3 s4->∀ h':Heap,Heap.SameBut P2.objs.size s4.heap h'->Inv X pins σ H3 { s4 with heap:=h' }:=fun H3 s4 I4 h' sb=>by
  have kp:∀ b o,b < s2.heap.objs.size->s4.heap.get? b=some o->h'.get? b=some o:=fun b o hb e=>sb.extBut b o (below b hb) e
  have u:Un (r9 X.stack) fp H2 H3 s2.heap s4.heap:=I4.base
  refine I2.call' (ch:=fp) (H':=H3) I4.os ⟨fun b o q n hb hx=>kp b o (Heap.lt_size q) (u.keep b o q n hb hx),fun b o q n hb hx=>?_,u.free,fun b o q hx=>?_,u.tups,u.frzs,u.tbls⟩ (fun a o e=>?_) I4.bare fun b hb=>⟨(f2 b hb).2.2.2.1,(f2 b hb).2.1,(f2 b hb).2.2.2.2.1,(f2 b hb).2.2.2.2.2⟩
  ·obtain ⟨sl,e⟩:=u.slot b o q n hb hx
   exact ⟨sl,kp b _ (Heap.lt_size q) e⟩
  ·obtain ⟨o',e⟩:=u.there b o q hx
   exact ⟨o',kp b _ (Heap.lt_size q) e⟩
  ·have nC:H3 P2.objs.size=none:=I4.free
   refine (I4.hok a o e).stay (fun b z hb q=>sb.extBut b z ?_ q) (fun _ q=>q) fun _ _ q=>q
   rcases hb with rfl | hb
   ·exact cN e nC
   ·exact cN hb nC
 have loop:∀ tk,codeAny (model X.prog X.w) X.A (.compLoop (.ListComp elt [⟨tg,iter,ifs,0⟩] scope pos) 0 (.ref it) (.ref s2.heap.objs.size) (compEnvC scope ((x0,P2.objs.size + 1) :: cl) P2.objs.size X.env))
   (compPost (model X.prog X.w) X.A X.xe use QQ (.ref s2.heap.objs.size) P2.objs.size) { s2 with heap:=h₁,toks:=tk }:=fun tk=>by
  refine wW (fun n s'=>∃ i H',Inv (gL X N scope ((x0,P2.objs.size + 1) :: cl) P2.objs.size s2 H2 fp x0) [] (cY k ix σ) H' s'/\tn i s'.heap/\(∀ b∈fp,H' b=none)/\W i n H') ?_ m0 ⟨0,_,Istart tk,st1,fr1,w0⟩
  rintro n s3 ⟨i,H3,I3,st3,fr3,w3⟩
  rcases turn i n H3 w3 with ⟨stop,q⟩ | ⟨go,step⟩
  ·refine bE (T.done (gL X N scope ((x0,P2.objs.size + 1) :: cl) P2.objs.size s2 H2 fp x0) rfl rfl rfl hc i [] s3 _ H3 (fun _ _=>False) I3 (stat fr3) st3 stop) fun r s4 ⟨hr,I4⟩=>?_
   subst hr
   obtain ⟨m,hn,_⟩:=I4.loc
   refine end_ s2.heap.objs.size P2.objs.size H3 s4 (fin H3 s4 I4 s4.heap (Heap.SameBut.refl ..)) ⟨m,hn⟩ I4.free (Ne.symm (below _ I2.lt)) (Nat.le_trans I2.sz (show s2.heap.objs.size<=P2.objs.size by rw [hCs];exact Nat.le_succ _)) (fun x c e=>?_) (fun p hp=>below _ (Heap.lt_size (I2.pin p hp).1)) (fin H3 s4 I4) q
   obtain ⟨v,o,ho,_⟩:=I2.cell x c e
   exact below _ (Heap.lt_size ho)
  ·refine bE (T.item (gL X N scope ((x0,P2.objs.size + 1) :: cl) P2.objs.size s2 H2 fp x0) rfl rfl rfl hc i [] s3 _ H3 (fun _ _=>False) I3 (stat fr3) st3 go) fun r s4 ⟨u,hr,h4⟩=>?_
   subst hr
   refine bE h4 fun _ s5 ⟨x,H5,I5,r5,y5,st5,fr5⟩=>?_
   have I5':=I5.pinned (stat fr5) (T.obj _ _ st5)
   refine bE (hg ((x0,P2.objs.size + 1) :: cl) P2.objs.size s2 H2 fp _ s5 _ H5 x u _ I5' r5 (gk _ _ _ _ (step x H5 y5))) fun _ s6 ⟨σ6,H6,I6,ag,q6⟩=>?_
   have again:∀ {s7:Shared} {H7:Hp} {m':Nat},Inv (gL X N scope ((x0,P2.objs.size + 1) :: cl) P2.objs.size s2 H2 fp x0) ([]++rU fp s5.heap) σ6 H7 s7->m' < n->W (i + 1) m' H7->∃ m,m < n/\∃ i H',Inv (gL X N scope ((x0,P2.objs.size + 1) :: cl) P2.objs.size s2 H2 fp x0) [] (cY k ix σ) H' s7/\tn i s7.heap/\(∀ b∈fp,H' b=none)/\W i m H':=fun {s7 H7 m'} I7 hm w7=>by
    refine ⟨m',hm,i + 1,H7,(I7.unpinned).weak (by rw [σl];exact (I7.len).symm) (fun j v e=>?_),T.keep _ _ _ st5 fun b hb o e=>(I7.pin (b,o) (List.mem_append_right _ (List.mem_append_right _ (kG hb e)))).1,fun b hb=>?_,w7⟩
    ·by_cases hj:j < k
     ·exfalso
      unfold cY at e
      rw [List.getElem?_append_left (by simpa using hj),List.getElem?_replicate] at e
      split at e <;> cases e
     ·rw [ag j (by omega)];exact e
    ·obtain ⟨o,e,d⟩:=T.obj _ _ st5 b hb
     exact (I7.pin (b,o) (List.mem_append_right _ (List.mem_append_right _ (kG hb e)))).2.1
   refine bE (hif ((x0,P2.objs.size + 1) :: cl) P2.objs.size s2 H2 fp _ s6 σ6 H6 _ I6 q6) fun ok s7 ⟨H7,I7,q7⟩=>?_
   cases ok with
   | false =>
    obtain ⟨m',hm,w7⟩:=q7
    exact again I7 hm w7
   | true =>
    refine bE (he ((x0,P2.objs.size + 1) :: cl) P2.objs.size s2 H2 fp _ s7 σ6 H7 _ I7 q7) fun y s8 ⟨yv,H8,I8,r8,ys,hD8,hz8,m',hm,w8⟩=>?_
    refine bE (u9 _ s8 σ6 H8 (.ref s2.heap.objs.size) [yv] (.ref s2.heap.objs.size) [y] (fun v H9=>H9=upd H8 s2.heap.objs.size (.lst (ys++[yv]))) I8 rfl (.cons r8 .nil) ⟨_,ys,yv,rfl,rfl,hD8,hz8,rfl⟩) fun _ s9 ⟨_,H9,I9,_,e9⟩=>?_
    subst e9
    exact again I9 hm w8
 exact codeAny_compStart_list (loop _) (T.self _ 0 _ _ _ st1 (loop _))
theorem kQ.compC {D:Dat} {X:Cx} (h:kQ D X) (N:List Str) (scope:Scope) (cl:List (Str × Addr)) (C:Addr) (s:Shared) (H:Hp) (fp:List Addr) (x0:Str):kQ (b8 D N scope) (gL X N scope cl C s H fp x0) :=
 ⟨h.prog,h.w,h.K,h.mg,h.base,rfl,by show cG scope X.env.scope=cG scope D.sc;rw [h.sc],h.room,h.calm,rfl,(fun z=>by cases z),(fun z=>absurd rfl z)⟩
theorem JT {D:Dat} {pos px:Pos} {te:UE} (own:Bool) (N:List Str) (ix:List Nat) {x0:Str} {scope:Scope} {iter elt:Expr} {wi:UI} (hi:rW D (.Name x0 px) iter wi) (he:bB (b8 D N scope) elt te) (hN0:N[0]?=some x0:=by rfl) (hNd:N.Nodup:=by decide +kernel)
  (hk:scope.kind=.function:=by rfl) (hcell:∀ y∈scope.names,y.2=.cell->y.1=x0:=by decide +kernel) (hx0:scope.names.lookup x0=some .cell:=by rfl) (hcf:∀ a cl,cellsFrom a scope.names cl=(x0,a) :: cl:=by intros;rfl) (hpc:∀ h,pushCells h scope.names=h.push { cls:=.type "cell",data:=.cell none }:=by intros;rfl)
  (hnames:∀ y∈scope.names,y.2=.local->scope.names.lookup y.1=some .local:=by first | decide +kernel | (dsimp only;decide +kernel) | (dsimp only [b8,cG];decide +kernel))
  (hfree:∀ y∈scope.names,y.2=.free->D.sc.names.lookup y.1=some .cell\/D.sc.names.lookup y.1=some .free:=by first | decide +kernel | (dsimp only;decide +kernel) | (dsimp only [b8,cG];decide +kernel)) (hone:∀ y∈scope.names,y.2=.free->scope.names.lookup y.1=some .free:=by first | decide +kernel | (dsimp only;decide +kernel) | (dsimp only [b8,cG];decide +kernel))
  (hN:ix.map (fun i=>D.N[i]?)=(N.drop 1).map some:=by rfl) (hcap:∀ x∈N.drop 1,scope.names.lookup x=some .free:=by first | decide +kernel | (dsimp only;decide +kernel) | (dsimp only [b8,cG];decide +kernel)) (hlen:N.length=1 + ix.length:=by rfl)
  (hloc:Loc (cG scope D.sc) x0:=by first | exact Or.inr rfl | exact Or.inr (by decide +kernel))
  (hs:∀ env x,foldedSetIterable iter env x=pure x:=by intro _ _;rfl):bB D (.ListComp elt [⟨.Name x0 px,iter,[],0⟩] scope pos) (vR own 1 ix wi (hName 0) (fun _ M Q=>Q true M) te):=by
 obtain ⟨_,p1,s1⟩:=hi;obtain ⟨_,p4,s4⟩:=he
 have hN':∀ (j:Nat) x,N[1 + j]?=some x->∃ i,ix[j]?=some i/\D.N[i]?=some x:=fun j x e=>by
  have e1:((N.drop 1).map some)[j]?=some (some x):=by rw [List.getElem?_map,List.getElem?_drop,e];rfl
  rw [<- hN,List.getElem?_map] at e1
  cases q:ix[j]? with
  | none=>rw [q] at e1;cases e1
  | some i=>rw [q] at e1;exact ⟨i,rfl,Option.some.inj e1⟩
 have hcap':∀ (j:Nat) x,N[1 + j]?=some x->scope.names.lookup x=some .free:=fun j x e=>hcap x (List.mem_of_getElem? (i:=j) (by rw [List.getElem?_drop];exact e))
 refine ⟨vU 1 ix _ (pX 0) Jw _,fun X h=>?_,xE s1 (pW 0) (fun σ τ H M Q' rs rm q Q c=>c true M H (aS.refl _ _) rm q) s4⟩
 intro pins s σ H Q I q
 rw [eval_ListComp]
 refine Fc (use:=none) (x0:=x0) h.calm (p1 X h) (EB (by decide)) hk hcell hx0 hcf hpc hnames (fun y hy e=>by show X.env.scope.names.lookup y.1=_\/X.env.scope.names.lookup y.1=_;rw [h.sc];exact hfree y hy e) hone (fun j x e=>by rw [h.N];exact hN' j x e) hcap' hlen
  (fun cl C s H fp=>Ez (i:=0) hNd hN0 (by show Loc (cG scope X.env.scope) x0;rw [h.sc];exact hloc) (.inl (decide_eq_true rfl))) (fun cl C s H fp=>DS) (fun cl C s H fp=>p4 _ (h.compC N scope cl C s H fp x0)) (hs _) I q fun D' C H3 s4 I4 ⟨m,hn⟩ _ _ _ _ _ fin q=>?_
 exact ⟨m,hn,fun h' sb=>⟨.ref D',H3,fin h' sb,rfl,q⟩⟩
end U2
namespace L2
open PySem PySem.Spec PyProof.Rows
def uJ (o:Obj):Array DictEntry:=match o.data with | .dict es _=>es | _=>#[]
def EH (o:Obj):Nat:=match o.data with | .dict _ ep=>ep | _=>0
def qU:HO->Nat
 | .dK kvs=>kvs.length
 | .dT kvs=>kvs.length
 | _=>0
def Fb (H:Hp) (i:Nat) (x:V):HO->Prop
 | .dK kvs=>∃ p,kvs[i]?=some p/\x=kV p.1
 | .dT kvs=>∃ p b,kvs[i]?=some p/\x=.ref b/\H b=some (.tup (p.1.map kV))
 | _=>False
def BA (i:Nat) (x:V):HO->Prop
 | .dK kvs=>∃ p,kvs[i]?=some p/\x=p.2
 | .dT kvs=>∃ p,kvs[i]?=some p/\x=p.2
 | _=>False
theorem PK {P:Program} {w:World} {k:Key} {u:Value} (h:(cF P w).is k u=true):RelV (kV k) u:=by
 rcases eG (show sR k u=true from h) with ⟨i,t,rfl,rfl⟩ | ⟨x,t,rfl,rfl⟩
 ·exact ⟨_,rfl⟩
 ·exact ⟨_,rfl⟩
theorem Er {P:Program} {w:World}:∀ {es:List DictEntry} {vs:List (Key × Value)} {kvs:List (Key × V)},Pairs (cF P w) es vs->KV kvs vs->es.length=kvs.length/\∀ (i:Nat) (e:DictEntry),es[i]?=some e->∃ p,kvs[i]?=some p/\RelV (kV p.1) e.key/\RelV p.2 e.val
 | _,_,_,.nil,.nil=>⟨rfl,fun i e h=>by simp at h⟩
 | _,_,_,.cons h1 h2 t,.cons q r=>by
  obtain ⟨hl,ih⟩:=Er t r
  refine ⟨by simp [hl],fun i e h=>?_⟩
  cases i with
  | zero=>simp at h;subst h;exact ⟨_,rfl,by rw [q.1];exact PK h1,by rw [h2];exact q.2⟩
  | succ j=>simpa using ih j e (by simpa using h)
theorem Ak {P:Program} {w:World} {H:Hp} {h:Heap} {d:Addr} {o:Obj} {u:HO} (ok:gE P w H h) (e:H d=some (.frz o u)) (dk:U2.tX u=true):v5 h d (uJ o) (EH o)/\(uJ o).size=qU u/\(d == sysModules)=false/\qU u<=sizeLine /\
  ∀ (i:Nat) en,(uJ o)[i]?=some en->∃ k v,Fb H i k u/\RelV k en.key/\BA i v u/\RelV v en.val:=by
 obtain ⟨g,hq⟩:=(show cK P w H h d (.frz o u) from ok d _ e)
 cases u with
 | dK kvs =>
  obtain ⟨z,hs,vs,rel,o',es,ep,g',c',d',kk,pp,nn⟩:=hq
  rw [g] at g';cases g'
  have e1:uJ o=es:=by unfold uJ;rw [d']
  have e2:EH o=ep:=by unfold EH;rw [d']
  obtain ⟨hl,pr⟩:=Er pp rel
  rw [e1,e2]
  refine ⟨⟨o,g,c',d'⟩,by simpa [qU] using hl,hs,z,fun i en hi=>?_⟩
  obtain ⟨p,h1,h2,h3⟩:=pr i en (by rw [Array.getElem?_toList];exact hi)
  exact ⟨_,_,⟨p,h1,rfl⟩,h2,⟨p,h1,rfl⟩,h3⟩
 | dT kvs =>
  obtain ⟨z,hs,xs,rel,o',es,ep,g',c',d',pp,nn⟩:=hq
  rw [g] at g';cases g'
  have e1:uJ o=es:=by unfold uJ;rw [d']
  have e2:EH o=ep:=by unfold EH;rw [d']
  rw [e1,e2]
  have hl:es.size=kvs.length:=by rw [<- Array.length_toList,pp,List.length_map];exact (Paired.length rel).symm
  have pr:∀ {kvs:List (List Key × V)} {xs:List (List Key × Addr × Value)},Paired (fun (p:List Key × V) (q:List Key × Addr × Value)=>p.1=q.1/\H q.2.1=some (.tup (p.1.map kV))/\RelV p.2 q.2.2) kvs xs->∀ (i:Nat) q,xs[i]?=some q->∃ p,kvs[i]?=some p/\p.1=q.1/\H q.2.1=some (.tup (p.1.map kV))/\RelV p.2 q.2.2:=by
   intro kvs xs r
   induction r with
   | nil=>intro i q h;simp at h
   | cons h t ih =>
    intro i q hq
    cases i with
    | zero=>simp at hq;subst hq;exact ⟨_,rfl,h⟩
    | succ j=>simpa using ih j q (by simpa using hq)
  refine ⟨⟨o,g,c',d'⟩,hl,hs,z,fun i en hi=>?_⟩
  have h0:(xs.map (entryOfKey (tupleKind (cF P w))))[i]?=some en:=by rw [<- pp,Array.getElem?_toList];exact hi
  rw [List.getElem?_map] at h0
  cases hx:xs[i]? with
  | none=>rw [hx] at h0;cases h0
  | some q =>
   rw [hx] at h0;cases h0
   obtain ⟨p,h1,h2,h3,h4⟩:=pr rel i q hx
   exact ⟨.ref q.2.1,p.2,⟨p,q.2.1,h1,rfl,h3⟩,rfl,⟨p,h1,rfl⟩,h4⟩
 | _=>cases dk
def N2 (d:Addr) (o:Obj) (u:HO):It :=
 ⟨fun i H=>H d=some (.frz o u)/\i < qU u,fun i H x H'=>H'=H/\Fb H i x u,fun i H=>H d=some (.frz o u)/\qU u<=i⟩
theorem Ij {P:Program} {w:World} {K:PySem.W.Frag} {tg:Expr} (d it:Addr) (o:Obj) (u:HO) (dk:U2.tX u=true):Turn P w K tg (N2 d o u) [it] it (fun i h=>h.IsKeyIter it d i (uJ o).size (EH o)) where
 mem:=by simp
 obj:=fun i h st b hb=>by
  have e:b=it:=by simpa using hb
  subst e
  obtain ⟨o,e,c,d⟩:=st
  exact ⟨o,e,fun v z=>by rw [d] at z;cases z⟩
 keep:=fun i h h' st k=>st.at fun o e=>k it (by simp) o e
 item:=by
  intro X hP hw hK hc i pins s σ H E I hf st hg
  subst hP hw hK
  obtain ⟨hq,hx⟩:=hg
  obtain ⟨raw,hlen,hs,_,at'⟩:=Ak I.hok hq dk
  obtain ⟨f0,f1,f2,f3,f4,f5⟩:=hf it (by simp)
  have hil:i < (uJ o).size:=by rw [hlen];exact hx
  obtain ⟨k,v,hk,rk,_,_⟩:=at' i _ (Array.getElem?_eq_getElem hil)
  refine J6 st raw (Array.getElem?_eq_getElem hil) fun h' st' sb=>?_
  have I1:Inv X pins σ H { s with heap:=h' }:=I.turned (t':=s.toks) (fun b o hb e=>(sb.2 b hb).trans e) f0 f1 f3 f4 f5
  obtain ⟨ob,e,c,dd⟩:=id st'
  exact ⟨_,rfl,vX (s:={ s with heap:=h' }) e c dd (by decide) ⟨k,H,I1,rk,⟨rfl,hk⟩,st',fun b hb=>(hf b hb).1⟩⟩
 done:=by
  intro X hP hw hK hc i pins s σ H E I hf st hg
  subst hP hw hK
  obtain ⟨hq,hx⟩:=hg
  obtain ⟨raw,hlen,hs,_,at'⟩:=Ak I.hok hq dk
  obtain ⟨f0,f1,f2,f3,f4,f5⟩:=hf it (by simp)
  exact Mg (I.ok.hd hc) st raw (Array.getElem?_eq_none (by rw [hlen];exact hx)) fun h' eb=>⟨rfl,I.turned (t':=s.toks) (fun b o hb e=>eb b o hb e) f0 f1 f3 f4 f5⟩
 self:=fun _ _ _ _ _ st h=>wpAny_pyIter_keyiter st h
section
variable {X:Cx} {tg:Expr}
theorem freeze {pins:List (Addr × Obj)} {σ:St} {H:Hp} {s:Shared} {d:Addr} {u:HO} (I:Inv X pins σ H s) (e:H d=some u) (dk:U2.tX u=true):∃ o,Inv X pins σ (upd H d (.frz o u)) s:=by
 have ok:cK X.prog X.w H s.heap d u:=I.hok d _ e
 have hx:∃ o,s.heap.get? d=some o:=by
  cases u with
  | dK kvs=>obtain ⟨_,_,_,_,o,_,_,h1,_⟩:=ok;exact ⟨o,h1⟩
  | dT kvs=>obtain ⟨_,_,_,_,o,_,_,h1,_⟩:=ok;exact ⟨o,h1⟩
  | _=>cases dk
 obtain ⟨o,g⟩:=hx
 refine ⟨o,?_⟩
 have ok2:cK X.prog X.w (upd H d (.frz o u)) s.heap d u:=by
  cases u with
  | dK kvs=>exact ok
  | dT kvs =>
   obtain ⟨z,hs,xs,rel,r⟩:=ok
   refine ⟨z,hs,xs,?_,r⟩
   have up:∀ {kvs:List (List Key × V)} {xs:List (List Key × Addr × Value)},Paired (fun (p:List Key × V) (q:List Key × Addr × Value)=>p.1=q.1/\H q.2.1=some (.tup (p.1.map kV))/\RelV p.2 q.2.2) kvs xs->∀ f:HO,Paired (fun (p:List Key × V) (q:List Key × Addr × Value)=>p.1=q.1/\upd H d f q.2.1=some (.tup (p.1.map kV))/\RelV p.2 q.2.2) kvs xs:=by
    intro kvs xs r f
    induction r with
    | nil=>exact .nil
    | cons h t ih=>exact .cons ⟨h.1,by rw [bL (fun z=>by rw [z,e] at h;exact absurd h.2.1 (by simp))];exact h.2.1,h.2.2⟩ ih
   exact up rel _
  | _=>cases dk
 have:=I.write (x:=d) (e:=d) (o:=.frz o u) (h':=s.heap) (t':=s.toks) (by rw [e];cases u <;> first | trivial | cases dk) (.inl rfl) (fun b u _ q=>q) ⟨o,g⟩ ⟨g,ok2⟩
 exact this
def C6 (H:Hp) (d:Addr) (R:Obj->HO->Hp->Prop):Prop:=∃ u,U2.tX u=true/\((H d=some u/\∀ o,R o u (upd H d (.frz o u)))\/∃ o,H d=some (.frz o u)/\R o u H)
theorem C6.go {pins:List (Addr × Obj)} {σ:St} {H:Hp} {s:Shared} {d:Addr} {R:Obj->HO->Hp->Prop} (I:Inv X pins σ H s) (h:C6 H d R):∃ o u H2,Inv X pins σ H2 s/\H2 d=some (.frz o u)/\U2.tX u=true/\R o u H2:=by
 obtain ⟨u,dk,⟨e,r⟩ | ⟨o,e,r⟩⟩:=h
 ·obtain ⟨o,I2⟩:=freeze I e dk
  exact ⟨o,u,_,I2,cT,dk,r o⟩
 ·exact ⟨o,u,H,I,e,dk,r⟩
def La (tl:TE):TI:=fun σ H R=>tl σ H fun x H1=>∃ d,x=.ref d/\C6 H1 d fun o u H2=>R (N2 d o u) H2
theorem Nf {l:Expr} {tl:TE} (hl:PE X l tl):PI X tg l (La tl):=by
 intro pins s σ H R I h
 refine bE (hl pins s σ H _ I h) fun v s1 ⟨x,H1,I1,r1,q1⟩=>?_
 obtain ⟨d,e,hq⟩:=q1
 subst e
 cases r1
 obtain ⟨o,u,H2,I2,e,dk,q⟩:=hq.go I1
 obtain ⟨raw,hlen,hs,_⟩:=Ak I2.hok e dk
 refine Jp hs raw ?_
 refine ⟨s1.heap.objs.size,[s1.heap.objs.size],_,_,H2,rfl,I2.kept (t':=s1.toks) fun b o e=>Heap.get?_push_of_some _ e,Ij d _ o u dk,⟨_,Heap.get?_push_size _ rfl,rfl,rfl⟩,fun b hb=>?_,q⟩
 have e:b=s1.heap.objs.size:=by simpa using hb
 subst e
 exact I2.fpOk (Nat.le_refl _) (I2.hok.fresh (Nat.le_refl _))
end
end L2
namespace U2
open PySem PySem.Spec PyProof.Rows L2
def keyOf (tk:Bool) (k:List Key):U:=if tk then .tup (k.map kU) else kU (B7 k)
def lH (tk:Bool) (ks:List (List Key)):List U:=ks.map (keyOf tk)
def Rk (tk:Bool) (ks:List (List Key)) (us:List U):List U:=(ks.zip us).map fun p=>.tup [keyOf tk p.1,p.2]
theorem G2 (tk:Bool) (ks:List (List Key)):(lH tk ks).length=ks.length:=by simp [lH]
def BU (u:HO) (ks:List (List Key)) (tk:Bool) (vs:List V):Prop:=match tk with
 | true=>∃ ws,u=.dT ws/\ks=ws.map (·.1)/\vs=ws.map (·.2)
 | false=>∃ ws,u=.dK ws/\ks=ws.map (fun p=>[p.1])/\vs=ws.map (·.2)
section
variable {K:PySem.W.Frag} {H:Hp} {M:aF}
theorem Ha (k:Key):aJ K H M (kU k) (kV k):=by cases k <;> simp only [kU,kV,aJ]
theorem Eo:∀ k:List Key,aK K H M (k.map kU) (k.map kV)
 | []=>.nil
 | a :: k=>.cons (Ha a) (Eo k)
theorem RelM.tupNone (rm:RelM K H M) {b:Addr} {ys:List V} (h:H b=some (.tup ys)):M b=none:=by
 cases e:M b with
 | none=>rfl
 | some mo =>
  have r:=rm b mo e
  cases mo with
  | lst us=>obtain ⟨vs,x,_⟩:=r;rw [h] at x;cases x
  | dK us=>obtain ⟨vs,x,_⟩:=r;rw [h] at x;cases x
  | dT us=>obtain ⟨vs,x,_⟩:=r;rw [h] at x;cases x
  | dN us=>obtain ⟨vs,x,_⟩:=r;rw [h] at x;cases x
  | tbl q=>obtain ⟨_,ps,x,_⟩:=r;rw [h] at x;cases x
theorem BU.key {u:HO} {ks:List (List Key)} {tk:Bool} {vs:List V} {i:Nat} {x:V} (d:BU u ks tk vs) (rm:RelM K H M) (h:Fb H i x u):∃ k,ks[i]?=some k/\aJ K H M (keyOf tk k) x:=by
 cases tk with
 | true =>
  obtain ⟨ws,rfl,rfl,rfl⟩:=d
  obtain ⟨p,b,h1,rfl,h3⟩:=h
  refine ⟨p.1,by rw [List.getElem?_map,h1];rfl,?_⟩
  show aJ K H M (.tup (p.1.map kU)) (.ref b)
  simp only [aJ]
  exact ⟨b,_,rfl,⟨rm.tupNone h3,h3⟩,Eo _⟩
 | false =>
  obtain ⟨ws,rfl,rfl,rfl⟩:=d
  obtain ⟨p,h1,rfl⟩:=h
  exact ⟨[p.1],by rw [List.getElem?_map,h1];rfl,Ha _⟩
theorem BU.len {u:HO} {ks:List (List Key)} {tk:Bool} {vs:List V} (d:BU u ks tk vs):ks.length=qU u/\vs.length=qU u:=by
 cases tk with
 | true=>obtain ⟨ws,rfl,rfl,rfl⟩:=d;simp [qU]
 | false=>obtain ⟨ws,rfl,rfl,rfl⟩:=d;simp [qU]
theorem Km {ks:List (List Key)} {tk:Bool} {us:List U} {v:V} {R:Addr->Obj->HO->Hp->Prop} (rm:RelM K H M) (r:aJ K H M (.dic ks tk us) v)
  (h:∀ a o u H2 vs,v=.ref a->aS H M H2 M->RelM K H2 M->H2 a=some (.frz o u)->M a=none->BU u ks tk vs->aK K H2 M us vs->R a o u H2):∃ d,v=.ref d/\C6 H d (R d):=by
 simp only [aJ] at r
 obtain ⟨a,vs,rfl,m,da,ru⟩:=r
 refine ⟨a,rfl,?_⟩
 have go:∀ u,tX u=true->BU u ks tk vs->Rd H a u->C6 H a (R a):=by
  intro u dk dok rd
  rcases rd with e | ⟨o,e⟩
  ·refine ⟨u,dk,.inl ⟨e,fun o=>?_⟩⟩
   have st:aS H M (upd H a (.frz o u)) M:=fun b ob eb mb=>by
    by_cases hb:b=a
    ·subst hb;rw [e] at eb;cases eb
     exact ⟨.inr ⟨dk,o,cT⟩,m⟩
    ·exact ⟨.inl (by rw [bL hb];exact eb),mb⟩
   have rm2:RelM K (upd H a (.frz o u)) M:=fun b mo eb=>(rm b mo eb).stp (fun _ _ z=>z) st (bL (fun z=>by rw [z,m] at eb;cases eb))
   exact h a o u _ vs rfl st rm2 cT m dok (ru.stp st)
  ·exact ⟨u,dk,.inr ⟨o,e,h a o u H vs rfl (aS.refl _ _) rm e m dok ru⟩⟩
 cases tk with
 | true=>obtain ⟨ws,e,e1,e2⟩:=da;exact go _ rfl ⟨ws,rfl,e1,e2⟩ e
 | false=>obtain ⟨ws,e,e1,e2⟩:=da;exact go _ rfl ⟨ws,rfl,e1,e2⟩ e
theorem BO {H1:Hp} {M1:aF} {a:Addr} {o:Obj} {u:HO} (st:aS H M H1 M1) (e:H a=some (.frz o u)) (m:M a=none):H1 a=some (.frz o u):=(st.to e m).1
theorem Im {ks:List (List Key)} {tk:Bool} {vs:List V} {a:Addr} {o:Obj} {u:HO} (e:H a=some (.frz o u)) (m:M a=none) (d:BU u ks tk vs):Walk K (N2 a o u) ⟨none,lH tk ks⟩ H M:=by
 refine ⟨fun H1 M1 s rm _ i w ew=>?_,fun H1 M1 s rm _=>⟨BO s e m,by show qU u<=(lH tk ks).length;rw [G2,d.len.1];exact Nat.le_refl _⟩⟩
 have hi:i < ks.length:=by have:=(List.getElem?_eq_some_iff.mp ew).1;simpa [lH] using this
 refine ⟨⟨BO s e m,by rw [<- d.len.1];exact hi⟩,fun x H2 y=>?_⟩
 obtain ⟨rfl,y⟩:=y
 refine ⟨aS.refl _ _,rm,?_⟩
 obtain ⟨k,h1,h2⟩:=d.key rm y
 have:(lH tk ks)[i]?=some (keyOf tk k):=by simp only [lH,List.getElem?_map,h1,Option.map_some]
 rw [show (Src.mk none (lH tk ks)).xs[i]?=(lH tk ks)[i]? from rfl,this] at ew
 cases ew;exact h2
def F5 (te:UE):UI:=fun τ M R=>te τ M fun x M1=>match x with
 | .dic ks tk us=>R ⟨none,lH tk ks⟩ M1
 | _=>False
theorem IY {t:TE} {t':UE} (h:cI K t t'):nQ K (La t) (F5 t'):=fun σ τ H M R' rs rm q R c=>h σ τ H M _ rs rm q _ fun x v M1 H1 s1 rm1 ru h1=>by
 cases x with
 | dic ks tk us=>exact Km rm1 ru fun a o u H2 vs hv st rm2 e m d r=>c _ _ M1 H2 (s1.trans st) rm2 (Im e m d) h1
 | _=>exact h1.elim
end
section
variable {D:Dat} {tg e:Expr} {te:UE} {pos p:Pos}
theorem Nj (h:bB D e te):rW D tg e (F5 te):=by
 obtain ⟨_,q,s⟩:=h
 exact ⟨_,fun X h=>Nf (q X h),IY s⟩
end
end U2
namespace U2
open PySem PySem.Spec PyProof.Rows L2
def Cv (τ:SU) (M:aF) (τ':SU) (M':aF):Prop:=∀ (K:PySem.W.Frag) (H:Hp) (σ:L2.St),RelM K H M->eP K H M σ τ->aS H M H M'/\RelM K H M'/\eP K H M' σ τ'
def QW (t:US):US:=fun D τ M=>t { D with nx:=fun τ1 M1=>∃ τ' M',Cv τ1 M1 τ' M'/\D.nx τ' M' } τ M
theorem Qg {D:Dat} {s:Stmt} {t:US} (h:qF D s t):qF D s (QW t):=by
 obtain ⟨u,p,q⟩:=h
 refine ⟨u,p,fun σ τ H M D' rs rm h D d=>q σ τ H M _ rs rm h D ⟨fun σ1 τ1 H1 M1 s1 rm1 rs1 h1=>?_,d.rt,d.bk,d.ct⟩⟩
 obtain ⟨τ',M',c,h2⟩:=h1
 obtain ⟨s2,rm2,rs2⟩:=c _ H1 σ1 rm1 rs1
 exact d.nx σ1 τ' H1 M' (s1.trans s2) rm2 rs2 h2
def Q2 (Q:UK):UK:=fun u M1=>∃ u' M',(∀ (K:PySem.W.Frag) (H:Hp) (v:V),RelM K H M1->aJ K H M1 u v->aS H M1 H M'/\RelM K H M'/\aJ K H M' u' v)/\Q u' M'
theorem Callee.conv {P:Program} {w:World} {K:PySem.W.Frag} {mg:Str->Option Value} {base:Heap} {j:Nat} {x:Str} {sp sp':dC} {dus:List U} (c:Callee P w K mg base j x sp dus) (h:∀ us M Q,sp' us M Q->sp us M (Q2 Q)):Callee P w K mg base j x sp' dus :=
 let ⟨f,fd,ps,dvs,ds,F,r⟩:=c.ex;⟨f,fd,ps,dvs,ds,F.imp fun vs H Q E ⟨us,M,Q',h1,h2,h3,h4⟩=>⟨us,M,Q2 Q',h1,h2,h us M Q' h3,fun u v M1 H1 st rm1 ru ⟨u',M',cv,q⟩=>let ⟨s2,rm2,ru2⟩:=cv K H1 v rm1 ru;h4 u' v M' H1 (st.trans s2) rm2 ru2 q⟩,r⟩
section
variable {K:PySem.W.Frag} {H:Hp} {M1 M':aF}
theorem EA {κ:Type}:∀ {kvs:List (κ × U)} {ws:List (κ × V)} {M:aF},cO K H M kvs ws->kvs.map (·.1)=ws.map (·.1)/\aK K H M (kvs.map (·.2)) (ws.map (·.2))
 | _,_,_,.nil=>⟨rfl,.nil⟩
 | _,_,_,.cons h t=>by
  obtain ⟨h1,h2⟩:=EA t
  refine ⟨?_,.cons h.2 h2⟩
  rw [List.map_cons,List.map_cons,h1,h.1]
def Rw (kvs:List (Key × U)):U:=.dic (kvs.map fun e=>[e.1]) false (kvs.map (·.2))
def mE (kvs:List (List Key × U)):U:=.dic (kvs.map (·.1)) true (kvs.map (·.2))
theorem pI (M:aF) (kvs:List (List Key × U)):iZ M (mE kvs)=some (.dT kvs):=by
 have e:∀ l:List (List Key × U),(l.map (·.1)).zip (l.map (·.2))=l:=by
  intro l
  induction l with
  | nil=>rfl
  | cons a r ih=>simp only [List.map_cons,List.zip_cons_cons,ih]
 simp only [mE,iZ,e]
theorem JD {kvs:List (List Key × U)} {a:Addr} (rm:RelM K H M1) (h:M1 a=some (.dT kvs)) (hn:M' a=none) (st:aS H M1 H M'):aJ K H M' (mE kvs) (.ref a):=by
 obtain ⟨ws,h1,r⟩:=rm a _ h
 obtain ⟨h2,h3⟩:=EA r
 exact ⟨a,ws.map (·.2),rfl,hn,⟨ws,.inl h1,h2,rfl⟩,h3.stp st⟩
theorem MU {us:List U} {a:Addr} (rm:RelM K H M1) (h:M1 a=some (.lst us)) (hn:M' a=none) (st:aS H M1 H M'):aJ K H M' (.lst us) (.ref a):=by
 obtain ⟨vs,h1,r⟩:=rm a _ h
 exact sJ hn h1 (r.stp st)
end
end U2
namespace L2
open PySem PySem.Spec PyProof.Rows
section
variable {X:Cx} {o e f:Expr} {apos cpos:Pos} {td ty tx:TE}
end
end L2
namespace U2
open PySem PySem.Spec PyProof.Rows L2
end U2
namespace PySem
open Sem (wp)
namespace F
theorem lk_list_keys:typeLookup (.type "list") "keys"=pure none:=by rw [typeLookup_type,builtinLookup_eq_fast];kernel_rfl
end F
section
variable {prog:Program} {w:World} {A:Around} {E:Value->Shared->Prop} {h:Heap} {g:Array GenState} {d:Drawn} {t:Nat} {os:OsState} {a:Addr} {o:Obj}
theorem AW {α:Type} {s:Shared} {name msg:Str} {Q:α->Shared->Prop} (hh:A.handled=none) (hlen:msg.length<=sizeLine) (hn:name.length<=sizeLine)
  (hq:∀ h' e t',(∀ b u,s.heap.get? b=some u->h'.get? b=some u)->(∃ oe,h'.get? e=some oe/\oe.cls=.type "AttributeError")->E (.ref e) { s with heap:=h',toks:=t' }) :
  wpAny (model prog w) A (raiseAttrError (.ref a) name msg:Sem α) Q E s:=by
 unfold raiseAttrError newExc newTuple
 obtain ⟨h,g,d,t,os⟩:=s
 refine wpAny_bind (wpAny_mkStr ?_ hlen)
 refine wpAny_bind (wpAny_bind (wpAny_newObj_type ?_ (by size_fits)))
 refine wpAny_bind (m:=firstArgMember _ _) (wpAny_of_eq (a:=Value.none) (by first | rfl | (simp only [firstArgMember];rfl)) ?_)
 refine wpAny_newObj_type ?_ (by size_fits)
 have hom:ownMembersOf (Value.type "AttributeError") [Value.str msg t]=#[unsetMember,unsetMember]:=rfl
 dsimp only at *
 rw [hom]
 have he:((h.push { cls:=Value.type "tuple",data:=Data.seq #[Value.str msg t] }).push { cls:=Value.type "AttributeError",data:=Data.fields (#[Value.ref h.objs.size,Value.none,Value.none,Value.none,Value.bool false,Value.none]++#[unsetMember,unsetMember]) }).get? (h.push { cls:=Value.type "tuple",data:=Data.seq #[Value.str msg t] }).objs.size=some _:=Heap.get?_push_size _ rfl
 have hk:∀ b u,h.get? b=some u->((h.push { cls:=Value.type "tuple",data:=Data.seq #[Value.str msg t] }).push { cls:=Value.type "AttributeError",data:=Data.fields (#[Value.ref h.objs.size,Value.none,Value.none,Value.none,Value.bool false,Value.none]++#[unsetMember,unsetMember]) }).get? b=some u:=fun b u x=>Heap.get?_push_of_some _ (Heap.get?_push_of_some _ x)
 have hne:∀ b u,h.get? b=some u->b≠(h.push { cls:=Value.type "tuple",data:=Data.seq #[Value.str msg t] }).objs.size:=fun b u x=>Nat.ne_of_lt (Nat.lt_of_lt_of_le (Heap.lt_size x) (by rw [Heap.size_push];exact Nat.le_succ _))
 generalize ((h.push { cls:=Value.type "tuple",data:=Data.seq #[Value.str msg t] }).push { cls:=Value.type "AttributeError",data:=Data.fields (#[Value.ref h.objs.size,Value.none,Value.none,Value.none,Value.bool false,Value.none]++#[unsetMember,unsetMember]) })=h1 at he hk ⊢
 generalize (h.push { cls:=Value.type "tuple",data:=Data.seq #[Value.str msg t] }).objs.size=e at he hne ⊢
 refine wpAny_bind (wpAny_mkText ?_)
 have hT:(⟨h1,g,d,t + 1 + 1,os⟩:Shared).TypeIs (.ref e) "AttributeError":=⟨_,he,rfl⟩
 refine wpAny_bind ?_
 unfold noteAttr lacksNameAndObj
 refine wpAny_bind (wpAny_bind (wpAny_isInstance hT (by rw [isSubtype_type];kernel_rfl:isSubtype (.type "AttributeError") (.type "AttributeError")=pure true) ?_))
 simp only [Bool.not_true,Bool.false_eq_true,if_false]
 refine wpAny_bind (wpAny_load he ?_)
 show wpAny _ _ (pure true) _ _ _
 refine wpAny_pure ?_
 simp only [if_true]
 refine wpAny_bind (wpAny_rule (wpAny_bind (wpAny_typeOf hT ?_)))
 unfold layMembers
 refine wpAny_bind (wpAny_load he ?_)
 refine wpAny_update he ?_
 refine wpAny_raiseNew_none hh (hq _ _ _ (fun b u x=>?_) ⟨_,Heap.get?_update_self _ he ?_,rfl⟩)
 ·rw [Heap.get?_update_ne]
  ·exact hk b u x
  ·exact hne b u x
 ·rfl
theorem C9 {tk:Tok} {Q:Fin->Shared->Prop} (hh:A.handled=none) {its:Array Value} {n:Nat} {sl:Array (Option Value)} (hx:h.get? a=some { cls:=.type "list",dict:=none,data:=.seq its n,slots:=sl })
  (hq:∀ h' e t',(∀ b u,h.get? b=some u->h'.get? b=some u)->(∃ oe,h'.get? e=some oe/\oe.cls=.type "AttributeError")->E (.ref e) ⟨h',g,d,t',os⟩) :
  wpAny (model prog w) A (Builtin.«object.__getattribute__» ⟨[.ref a,.str "keys" tk],[]⟩) Q E ⟨h,g,d,t,os⟩:=by
 have hT:(⟨h,g,d,t,os⟩:Shared).TypeIs (.ref a) "list":=⟨_,hx,rfl⟩
 have f4:=F.lk_list_keys
 repeat (any_goals (first | assumption | refine wpAny_loadPart_at hx ?_ | wp_step))
 have hlen:(Str.ofString (toString "'"++toString ((Manifest.find? "list").elim "list" fun x=>x.tpName)++toString "' object has no attribute '")++Str.ofString "keys"++Str.ofString "'").length<=sizeLine:=by decide +kernel
 generalize (Str.ofString (toString "'"++toString ((Manifest.find? "list").elim "list" fun x=>x.tpName)++toString "' object has no attribute '")++Str.ofString "keys"++Str.ofString "'")=msg at hlen ⊢
 exact AW hh hlen (by decide +kernel) hq
theorem Dp {tk:Tok} {R:Result->Shared->Prop} (hh:A.handled=none) {its:Array Value} {n:Nat} {sl:Array (Option Value)} (hx:h.get? a=some { cls:=.type "list",dict:=none,data:=.seq its n,slots:=sl })
  (hq:∀ h' e t',(∀ b u,h.get? b=some u->h'.get? b=some u)->(∃ oe,h'.get? e=some oe/\oe.cls=.type "AttributeError")->R (.error (.ref e)) ⟨h',g,d,t',os⟩) :
  codeAny (model prog w) A (.call (.builtin "list.__getattribute__") ⟨[.ref a,.str "keys" tk],[]⟩) R ⟨h,g,d,t,os⟩ :=
 codeAny_call_builtin F.slot_list_getattribute.plain F.entry_list_ga (F.slot_list_getattribute.check _ _ _ _ _ _ _ _ (show (⟨h,g,d,t,os⟩:Shared).TypeIs (.ref a) "list" from ⟨_,hx,rfl⟩) (F.args_list_getattribute_2 _ _) (C9 hh hx hq))
theorem Hs {tk:Tok} {Q:Value->Shared->Prop} (hh:A.handled=none) {its:Array Value} {n:Nat} {sl:Array (Option Value)} (hx:h.get? a=some { cls:=.type "list",dict:=none,data:=.seq its n,slots:=sl })
  (hq:∀ h' e t',(∀ b u,h.get? b=some u->h'.get? b=some u)->(∃ oe,h'.get? e=some oe/\oe.cls=.type "AttributeError")->E (.ref e) ⟨h',g,d,t',os⟩) :
  wpAny (model prog w) A (getAttrBy (.ref a) (.str "keys" tk) false) Q E ⟨h,g,d,t,os⟩:=by
 have hT:(⟨h,g,d,t,os⟩:Shared).TypeIs (.ref a) "list":=⟨_,hx,rfl⟩
 have f2:=F.slot_list_getattribute.lookup
 have f3:=F.slot_list_getattribute.bind (.ref a)
 repeat (any_goals (first | assumption | wp_step))
 refine Dp (tk:=tk) hh hx fun h' e t' hk he=>?_
 obtain ⟨oe,he,hc⟩:=he
 have hE:(⟨h',g,d,t',os⟩:Shared).TypeIs (.ref e) "AttributeError":=⟨_,he,hc⟩
 have hq':=hq h' e t' hk ⟨oe,he,hc⟩
 have f5:isSubtype (.type "AttributeError") (.type "AttributeError")=pure true:=by rw [isSubtype_type];kernel_rfl
 have f6:typeLookup (.type "list") "__getattr__"=pure none:=by rw [typeLookup_type,builtinLookup_eq_fast];kernel_rfl
 dsimp only
 unfold getattributeRaised
 refine wpAny_bind (wpAny_isInstance hE f5 ?_)
 repeat (any_goals (first | assumption | wp_step))
theorem Dr {Q:Option Value->Shared->Prop} (hh:A.handled=none) {its:Array Value} {n:Nat} {sl:Array (Option Value)} (hx:h.get? a=some { cls:=.type "list",dict:=none,data:=.seq its n,slots:=sl })
  (hq:∀ h' t',(∀ b u,h.get? b=some u->h'.get? b=some u)->Q none ⟨h',g,d,t',os⟩):wpAny (model prog w) A (getAttr? (.ref a) "keys") Q E ⟨h,g,d,t,os⟩:=by
 unfold getAttr? getAttrBy?
 refine wpAny_bind (wpAny_mkText (wpAny_bind (wpAny_attempt (Hs hh hx fun h' e t' hk he=>?_))))
 obtain ⟨oe,he,hc⟩:=he
 have f5:isSubtype (.type "AttributeError") (.type "AttributeError")=pure true:=by rw [isSubtype_type];kernel_rfl
 refine wpAny_bind (wpAny_isInstance (⟨_,he,hc⟩:(⟨h',g,d,t',os⟩:Shared).TypeIs (.ref e) "AttributeError") f5 ?_)
 exact wpAny_pure (hq h' t' hk)
end
end PySem
namespace L2
open PySem PySem.Spec PyProof.Rows
end L2
namespace U2
open PySem PySem.Spec PyProof.Rows L2
end U2
namespace U2
open PySem PySem.Spec PyProof.Rows L2
def Rg:Int->List Int->Int
 | m,[]=>m
 | m,n :: ns=>Rg (if n < m then n else m) ns
section
variable {X:Cx}
end
end U2
namespace U2
open PySem PySem.Spec PyProof.Rows L2
section
variable {prog:Program} {w:World} {A:Around} {E:Value->Shared->Prop} {s:Shared} {r:Addr} {a b:Int} {t u v:Tok}
end
section
variable {X:Cx} {tg a b e:Expr} {ta:TA} {te:TE} {p pos:Pos}
end
section
variable {D:Dat} {tg a b:Expr} {p p2 pos pos2:Pos} {ta:UA}
end
end U2
namespace U2
open PySem PySem.Spec PyProof.Rows L2
section
variable {prog:Program} {w:World} {A:Around} {E:Value->Shared->Prop} {s:Shared}
end
section
variable {prog:Program} {w:World} {A:Around} {E:Value->Shared->Prop} {s:Shared}
end
theorem Gs {α β:Type} (f:α->Bool) (g:β->Bool):∀ (l:List α) (m:List β),l.length=m.length->(∀ (i:Nat) a b,l[i]?=some a->m[i]?=some b->f a=g b)->l.countP f=m.countP g
 | [],[],_,_=>rfl
 | [],_ :: _,h,_=>by cases h
 | _ :: _,[],h,_=>by cases h
 | a :: l,b :: m,h,k=>by
  rw [List.countP_cons,List.countP_cons,k 0 a b rfl rfl,Gs f g l m (by simpa using h) fun i a b h1 h2=>k (i + 1) a b h1 h2]
def v9:List U->Option (List Int)
 | []=>some []
 | .int b :: r=>(v9 r).map (b :: ·)
 | _=>none
theorem GD {K:PySem.W.Frag} {H:Hp} {M:aF}:∀ {us:List U} {vs:List V} {bs:List Int},aK K H M us vs->v9 us=some bs->vs=bs.map V.int
 | [],_,_,r,h=>by cases h;exact r.inv_nil
 | u :: us,_,bs,r,h=>by
  obtain ⟨v,vs',rfl,a,b⟩:=r.inv_cons
  cases u with
  | int y =>
   simp only [v9] at h
   cases e:v9 us with
   | none=>rw [e] at h;cases h
   | some cs =>
    rw [e] at h
    cases h
    rw [GD b e,a.int];rfl
  | _=>cases h
theorem GB:∀ l:List Int,v9 (l.map U.int)=some l
 | []=>rfl
 | a :: l=>by simp only [List.map_cons,v9,GB l,Option.map_some]
end U2
namespace L2
open PySem
theorem Ib {q:List Value->Prop} (h:q []) (us:List Value) (e:us.length=0):q us:=by rw [List.length_eq_zero_iff.mp e];exact h
theorem o3 {n:Nat} {q:List Value->Prop} (h:∀ x us,us.length=n->q (x :: us)) (us:List Value) (e:us.length=n + 1):q us:=by
 cases us with
 | nil=>cases e
 | cons x r=>exact h x r (Nat.succ.inj e)
abbrev Ar:=Value->Value->Value->Option Addr->Value->Value->List Value->Prop
theorem u4 {p:Ar} (h:∀ a b c d e g x0,p a b c d e g [x0]) (a b c d e g):∀ us,us.length=1->p a b c d e g us:=o3 fun x0=>Ib (h a b c d e g x0)
theorem uQ {p:Ar} (h:∀ a b c d e g x0 x1,p a b c d e g [x0,x1]) (a b c d e g):∀ us,us.length=2->p a b c d e g us:=o3 fun x0=>o3 fun x1=>Ib (h a b c d e g x0 x1)
theorem wJ {p:Ar} (h:∀ a b c d e g x0 x1 x2,p a b c d e g [x0,x1,x2]) (a b c d e g):∀ us,us.length=3->p a b c d e g us:=o3 fun x0=>o3 fun x1=>o3 fun x2=>Ib (h a b c d e g x0 x1 x2)
theorem Le {p:Ar} (h:∀ a b c d e g x0 x1 x2 x3,p a b c d e g [x0,x1,x2,x3]) (a b c d e g):∀ us,us.length=4->p a b c d e g us:=o3 fun x0=>o3 fun x1=>o3 fun x2=>o3 fun x3=>Ib (h a b c d e g x0 x1 x2 x3)
theorem Q0 {p:Ar} (h:∀ a b c d e g x0 x1 x2 x3 x4,p a b c d e g [x0,x1,x2,x3,x4]) (a b c d e g):∀ us,us.length=5->p a b c d e g us:=o3 fun x0=>o3 fun x1=>o3 fun x2=>o3 fun x3=>o3 fun x4=>Ib (h a b c d e g x0 x1 x2 x3 x4)
end L2
namespace U2
open PySem PySem.Spec PyProof.Rows L2
theorem gJ {N P:List Str} {sc:Scope} (a:sc.kind=.function:=by rfl) (b:sc.isCoroutine=false:=by rfl) (c:sc.isGenerator=false:=by rfl) (d:N.Nodup:=by decide +kernel) (e:N.take P.length=P:=by rfl) (f:∀ x∈P,sc.names.lookup x=some .local\/sc.names.lookup x=some .cell:=by decide +kernel) (g:∀ y∈sc.names,y.2≠.free:=by decide +kernel):bH N P sc:=⟨a,b,c,d,e,f,g⟩
theorem nk {xs:List U} {I:Nat->SU->aF->Prop}:∀ i τ M,I i τ M->(Src.mk none xs).ok M:=fun _ _ _ _ _ e=>nomatch e
theorem bT {P:Program} {w:World} {K:PySem.W.Frag} {mg:Str->Option Value} {base:Heap} {x:Str} {st:Stmt} {f:Addr} {fd:FuncData} {N ps:List Str} {k:Nat} {sp:dC} {t:US} (F:cZ K x x st f fd) (hm:mg x=some (.ref f)) (S:bH N ps (aV st))
  (bind:∀ (kV doc pm:Value) (an:Option Addr) (cdv ct:Value) (us:List Value),us.length=ps.length->bindArgs (PySem.W.fnOf x x (kJ st) (gK st) (aV st) .none kV doc pm an cdv ct) ⟨us,[]⟩=pure (ps.zip us))
  (h:oR ⟨P,w,K,mg,base,N,aV st,k,true,.none,""⟩ (gK st) t)
  (q:∀ us M Q,sp us M Q->us.length=ps.length/\t { nx:=fun _ M'=>rJ Q .non M',rt:=rJ Q } (gT N us) M):Callee P w K mg base (k + 1) x sp [] :=
 G0 F hm S bind (fun us M Q hs=>(q us M Q hs).1) h (fun us M Q hs=>(q us M Q hs).2)
end U2
namespace K28
open PySem L2 U2
def top (i:Nat):Stmt:=PySem.Challenge.pw_rowsmith_k28_labels_are_least_prices.main.body.getD i (.Pass ⟨0,0,0,0⟩)
abbrev uM:Stmt:=top 2
theorem Dk:bH ["shape"] ["shape"] (aV uM):=gJ
abbrev jK:Stmt:=top 3
theorem fG:bH ["shape","found","number","part"] ["shape"] (aV jK):=gJ
abbrev uN:Stmt:=top 4
theorem m4:bH ["shape","place","here","number"] ["shape","place"] (aV uN):=gJ
abbrev mI:Stmt:=top 5
theorem yT:bH ["pattern","tree"] ["pattern","tree"] (aV mI):=gJ
abbrev AJ:Stmt:=top 7
theorem KU:bH ["tree"] ["tree"] (aV AJ):=gJ
abbrev xB:Stmt:=top 8
theorem HQ:bH ["tree"] ["tree"] (aV xB):=gJ
abbrev vB:Stmt:=top 9
theorem FV:bH ["tree","place"] ["tree","place"] (aV vB):=gJ
abbrev AA:Stmt:=top 11
theorem B4:bH ["pattern","found"] ["pattern"] (aV AA):=gJ
abbrev yZ:Stmt:=top 13
theorem Nm:bH ["pattern","tree"] ["pattern","tree"] (aV yZ):=gJ
abbrev tP:Stmt:=top 15
theorem jJ:bH ["table","tree","place","here","found","number","tile","spots"] ["table","tree","place"] (aV tP):=gJ
abbrev oN:Stmt:=top 16
theorem uW:bH ["price","spots","values","joined","had"] ["price","spots","values","joined"] (aV oN):=gJ
abbrev pS:Stmt:=top 17
theorem dW:bH ["tiles","place","values","choices","joined","lowered","number","cls","price","spots","value"] ["tiles","place","values","choices","joined"] (aV pS):=gJ
abbrev mR:Stmt:=top 18
theorem jT:bH ["table","tree","joined","values","choices","place"] ["table","tree","joined"] (aV mR):=gJ
abbrev t9:Stmt:=top 19
theorem Dh:bH ["table","tree","values"] ["table","tree","values"] (aV t9):=gJ
abbrev mO:Stmt:=top 21
theorem yB:bH ["price","prices"] ["price","prices"] (aV mO):=gJ
abbrev x6:Stmt:=top 22
theorem IJ:bH ["table","tree"] ["table","tree"] (aV x6):=gJ
abbrev sT:Stmt:=top 24
theorem iN:bH ["tape","many","spot","cell","some","rest"] ["tape","many"] (aV sT):=gJ
abbrev oX:Stmt:=top 25
theorem nM:bH ["tape","some","way"] ["tape"] (aV oX):=gJ
abbrev lD:Stmt:=top 26
theorem i5:bH ["tape","classes","left","room","way","ends","one","sign"] ["tape","classes","left","room"] (aV lD):=gJ
abbrev tR:Stmt:=top 27
theorem k8:bH ["tape","classes","cls","pattern","cost"] ["tape","classes"] (aV tR):=gJ
abbrev qX:Stmt:=top 28
theorem hJ:bH ["tape","classes","cls","here","some","found","pattern"] ["tape","classes"] (aV qX):=gJ
abbrev q9:Stmt:=top 29
theorem bY:bH ["tape","pool","at","many","classes","tiles","k","spot","names","found","tile","name"] ["tape"] (aV q9):=gJ
abbrev n4:Stmt:=top 30
theorem m5:bH ["tape","left","room","way","one","sign"] ["tape","left","room"] (aV n4):=gJ
abbrev m8:Stmt:=top 31
theorem j6:bH ["pattern","tree","place","found","k","some"] ["pattern","tree","place"] (aV m8):=gJ
abbrev p7:Stmt:=top 32
theorem nX:bH ["tree","place","found","k"] ["tree","place"] (aV p7):=gJ
abbrev uG:Stmt:=top 33
theorem jI:bH ["table","tile","spots","numbers","total","place","cls","number"] ["table","tile","spots","numbers"] (aV uG):=gJ
abbrev sS:Stmt:=top 34
theorem iO:bH ["table","tree","numbers","place","here","tile","spots","cost","number"] ["table","tree","numbers"] (aV sS):=gJ
abbrev qO:Stmt:=top 35
theorem C3:bH ["thing"] ["thing"] (aV qO):=gJ
abbrev qZ:Stmt:=top 36
theorem oS:bH ["told","spots","many","row","spot"] ["told","spots","many"] (aV qZ):=gJ
abbrev qW:Stmt:=top 37
theorem iV:bH ["table","place","here","numbers","known","tile","spots","at","cost","some"] ["table","place","here","numbers","known"] (aV qW):=gJ
abbrev pB:Stmt:=top 38
theorem fZ:bH ["table","tree","numbers","known","place","here","turn","at"] ["table","tree","numbers"] (aV pB):=gJ
abbrev nY:Stmt:=top 39
theorem nI:bH ["script","tape","table","tree","told","numbers","due"] ["script"] (aV nY):=gJ
section
variable {P:Program} {w:World} {K:PySem.W.Frag} {mg:Str->Option Value} {base:Heap} {f d d2 fl:Addr} {fd:FuncData}
inductive Op where
 | sum | less | by_
def Op.word:Op->Str
 | .sum=>"sum" | .less=>"less" | .by_=>"by"
inductive Tr where
 | num (n:Int) | name (x:Str) | turn (a:Tr) | two (o:Op) (a b:Tr)
def Tr.toU:Tr->U
 | .num n=>.tup [.str "num",.int n]
 | .name x=>.tup [.str "name",.str x]
 | .turn a=>.tup [.str "turn",a.toU]
 | .two o a b=>.tup [.str o.word,a.toU,b.toU]
def Tr.ok:Tr->Prop
 | .num _=>True
 | .name x=>PyData.strOk x=true/\x.length<=100
 | .turn a=>a.ok
 | .two _ a b=>a.ok/\b.ok
def Tr.dep:Tr->Nat
 | .num _=>1
 | .name _=>1
 | .turn a=>a.dep + 1
 | .two _ a b=>max a.dep b.dep + 1
inductive Pt where
 | hole (c:Str) | any | fr (l h:Int) | turn (a:Pt) | two (o:Op) (a b:Pt)
def Pt.toU:Pt->U
 | .hole c=>.tup [.str "at",.str c]
 | .any=>.tup [.str "any"]
 | .fr l h=>.tup [.str "from",.int l,.int h]
 | .turn a=>.tup [.str "turn",a.toU]
 | .two o a b=>.tup [.str o.word,a.toU,b.toU]
def Pt.ok:Pt->Prop
 | .hole c=>PyData.strOk c=true
 | .any=>True
 | .fr l h=>0<=l/\l<=h
 | .turn a=>a.ok
 | .two _ a b=>a.ok/\b.ok
def Pt.dep:Pt->Nat
 | .hole _=>1
 | .any=>1
 | .fr _ _=>1
 | .turn a=>a.dep + 1
 | .two _ a b=>max a.dep b.dep + 1
def Pt.holes:Pt->Nat
 | .hole _=>1
 | .any=>0
 | .fr _ _=>0
 | .turn a=>a.holes
 | .two _ a b=>a.holes + b.holes
def Pt.leafy:Pt->Bool
 | .turn _=>false
 | .two _ _ _=>false
 | _=>true
def Pt.ends:Pt->List Pt
 | .turn a=>a.ends
 | .two _ a b=>a.ends++b.ends
 | p=>[p]
instance:DecidableEq Op:=fun a b=>by cases a <;> cases b <;> first | exact isTrue rfl | exact isFalse (fun h=>nomatch h)
def cJ:Pt->Tr->Bool
 | .hole _,_=>true
 | .any,.name _=>true
 | .any,_=>false
 | .fr l h,.num n=>decide (l<=n) && decide (n<=h)
 | .fr _ _,_=>false
 | .turn p,.turn a=>cJ p a
 | .turn _,_=>false
 | .two o p q,.two o' a b=>decide (o=o') && (cJ p a && cJ q b)
 | .two _ _ _,_=>false
theorem Op.word_inj {a b:Op}:a.word=b.word ↔ a=b:=by
 cases a <;> cases b <;> first | exact ⟨fun _=>rfl,fun _=>rfl⟩ | exact ⟨fun h=>absurd h (by decide +kernel),fun h=>nomatch h⟩
def iG:List (Str × Fl):=[("turn",.int 1),("sum",.int 2),("less",.int 2),("by",.int 2)]
theorem QG (x y:Str):(x++y).cps.toList=x.cps.toList++y.cps.toList:=by
 show (x.cps++y.cps).toList=_
 simp
theorem rR {α:Type} {l:List α} {i:Int} {c:α} (h:eL l i=some c):c∈l:=by
 unfold eL at h
 cases e:vD l.length i with
 | none=>rw [e] at h;cases h
 | some j=>rw [e] at h;exact List.mem_of_getElem? h
theorem small {n:Nat} (h:n<=100000):n<=sizeLine:=Nat.le_trans h (by decide)
theorem BG {n:Nat} (h:n<=100000):(n<=sizeLine)=True:=eq_true (small h)
theorem JB:(Str.ofString "at"=Str.ofString "any")=False:=eq_false (by decide +kernel)
theorem HH:(Str.ofString "at"=Str.ofString "from")=False:=eq_false (by decide +kernel)
theorem Hg:(Str.ofString "at"=Str.ofString "turn")=False:=eq_false (by decide +kernel)
theorem JR:(Str.ofString "at"=Str.ofString "num")=False:=eq_false (by decide +kernel)
theorem GY:(Str.ofString "at"=Str.ofString "name")=False:=eq_false (by decide +kernel)
theorem Jv:(Str.ofString "any"=Str.ofString "at")=False:=eq_false (by decide +kernel)
theorem Fp:(Str.ofString "any"=Str.ofString "from")=False:=eq_false (by decide +kernel)
theorem FH:(Str.ofString "any"=Str.ofString "turn")=False:=eq_false (by decide +kernel)
theorem GI:(Str.ofString "any"=Str.ofString "num")=False:=eq_false (by decide +kernel)
theorem FA:(Str.ofString "any"=Str.ofString "name")=False:=eq_false (by decide +kernel)
theorem IF:(Str.ofString "from"=Str.ofString "at")=False:=eq_false (by decide +kernel)
theorem Fq:(Str.ofString "from"=Str.ofString "any")=False:=eq_false (by decide +kernel)
theorem Dq:(Str.ofString "from"=Str.ofString "turn")=False:=eq_false (by decide +kernel)
theorem Ff:(Str.ofString "from"=Str.ofString "num")=False:=eq_false (by decide +kernel)
theorem Dv:(Str.ofString "from"=Str.ofString "name")=False:=eq_false (by decide +kernel)
theorem Iw:(Str.ofString "turn"=Str.ofString "at")=False:=eq_false (by decide +kernel)
theorem F9:(Str.ofString "turn"=Str.ofString "any")=False:=eq_false (by decide +kernel)
theorem Dj:(Str.ofString "turn"=Str.ofString "from")=False:=eq_false (by decide +kernel)
theorem FJ:(Str.ofString "turn"=Str.ofString "num")=False:=eq_false (by decide +kernel)
theorem DN:(Str.ofString "turn"=Str.ofString "name")=False:=eq_false (by decide +kernel)
theorem Kw:(Str.ofString "num"=Str.ofString "at")=False:=eq_false (by decide +kernel)
theorem GR:(Str.ofString "num"=Str.ofString "any")=False:=eq_false (by decide +kernel)
theorem EU:(Str.ofString "num"=Str.ofString "from")=False:=eq_false (by decide +kernel)
theorem FG:(Str.ofString "num"=Str.ofString "turn")=False:=eq_false (by decide +kernel)
theorem FW:(Str.ofString "num"=Str.ofString "name")=False:=eq_false (by decide +kernel)
theorem HU:(Str.ofString "name"=Str.ofString "at")=False:=eq_false (by decide +kernel)
theorem Gm:(Str.ofString "name"=Str.ofString "any")=False:=eq_false (by decide +kernel)
theorem DL:(Str.ofString "name"=Str.ofString "from")=False:=eq_false (by decide +kernel)
theorem Ds:(Str.ofString "name"=Str.ofString "turn")=False:=eq_false (by decide +kernel)
theorem FI:(Str.ofString "name"=Str.ofString "num")=False:=eq_false (by decide +kernel)
theorem OM (o:Op):(o.word=Str.ofString "at")=False:=eq_false (by cases o <;> decide +kernel)
theorem MJ (o:Op):(o.word=Str.ofString "any")=False:=eq_false (by cases o <;> decide +kernel)
theorem KO (o:Op):(o.word=Str.ofString "from")=False:=eq_false (by cases o <;> decide +kernel)
theorem Jq (o:Op):(o.word=Str.ofString "turn")=False:=eq_false (by cases o <;> decide +kernel)
theorem Mm (o:Op):(o.word=Str.ofString "num")=False:=eq_false (by cases o <;> decide +kernel)
theorem J9 (o:Op):(o.word=Str.ofString "name")=False:=eq_false (by cases o <;> decide +kernel)
theorem O9 (o:Op):(Str.ofString "at"=o.word)=False:=eq_false (by cases o <;> decide +kernel)
theorem Me (o:Op):(Str.ofString "any"=o.word)=False:=eq_false (by cases o <;> decide +kernel)
theorem J5 (o:Op):(Str.ofString "from"=o.word)=False:=eq_false (by cases o <;> decide +kernel)
theorem IX (o:Op):(Str.ofString "turn"=o.word)=False:=eq_false (by cases o <;> decide +kernel)
theorem L1 (o:Op):(Str.ofString "num"=o.word)=False:=eq_false (by cases o <;> decide +kernel)
theorem JV (o:Op):(Str.ofString "name"=o.word)=False:=eq_false (by cases o <;> decide +kernel)
theorem kD:(Str.ofString "at"=Str.ofString "any")=False/\(Str.ofString "at"=Str.ofString "from")=False/\(Str.ofString "at"=Str.ofString "turn")=False/\(Str.ofString "at"=Str.ofString "num")=False/\(Str.ofString "at"=Str.ofString "name")=False/\(Str.ofString "any"=Str.ofString "at")=False:=⟨JB,HH,Hg,JR,GY,Jv⟩
theorem jW:(Str.ofString "any"=Str.ofString "from")=False/\(Str.ofString "any"=Str.ofString "turn")=False/\(Str.ofString "any"=Str.ofString "num")=False/\(Str.ofString "any"=Str.ofString "name")=False/\(Str.ofString "from"=Str.ofString "at")=False/\(Str.ofString "from"=Str.ofString "any")=False:=⟨Fp,FH,GI,FA,IF,Fq⟩
theorem j9:(Str.ofString "from"=Str.ofString "turn")=False/\(Str.ofString "from"=Str.ofString "num")=False/\(Str.ofString "from"=Str.ofString "name")=False/\(Str.ofString "turn"=Str.ofString "at")=False/\(Str.ofString "turn"=Str.ofString "any")=False/\(Str.ofString "turn"=Str.ofString "from")=False:=⟨Dq,Ff,Dv,Iw,F9,Dj⟩
theorem j8:(Str.ofString "turn"=Str.ofString "num")=False/\(Str.ofString "turn"=Str.ofString "name")=False/\(Str.ofString "num"=Str.ofString "at")=False/\(Str.ofString "num"=Str.ofString "any")=False/\(Str.ofString "num"=Str.ofString "from")=False/\(Str.ofString "num"=Str.ofString "turn")=False:=⟨FJ,DN,Kw,GR,EU,FG⟩
theorem j5:(Str.ofString "num"=Str.ofString "name")=False/\(Str.ofString "name"=Str.ofString "at")=False/\(Str.ofString "name"=Str.ofString "any")=False/\(Str.ofString "name"=Str.ofString "from")=False/\(Str.ofString "name"=Str.ofString "turn")=False/\(Str.ofString "name"=Str.ofString "num")=False:=⟨FW,HU,Gm,DL,Ds,FI⟩
theorem jZ:(∀ o:Op,(o.word=Str.ofString "at")=False)/\(∀ o:Op,(o.word=Str.ofString "any")=False)/\(∀ o:Op,(o.word=Str.ofString "from")=False)/\(∀ o:Op,(o.word=Str.ofString "turn")=False)/\(∀ o:Op,(o.word=Str.ofString "num")=False)/\(∀ o:Op,(o.word=Str.ofString "name")=False):=⟨OM,MJ,KO,Jq,Mm,J9⟩
theorem j7:(∀ o:Op,(Str.ofString "at"=o.word)=False)/\(∀ o:Op,(Str.ofString "any"=o.word)=False)/\(∀ o:Op,(Str.ofString "from"=o.word)=False)/\(∀ o:Op,(Str.ofString "turn"=o.word)=False)/\(∀ o:Op,(Str.ofString "num"=o.word)=False)/\(∀ o:Op,(Str.ofString "name"=o.word)=False):=⟨O9,Me,J5,IX,L1,JV⟩
theorem mB {neg:Bool} {i j:Int} {M:aF} {Q:UK}:sX neg (.int i) (.int j) M Q=Q (.bl (if neg then !decide (i=j) else decide (i=j))) M:=rfl
theorem l9 {neg:Bool} {i j:Str} {M:aF} {Q:UK}:sX neg (.str i) (.str j) M Q=Q (.bl (if neg then !decide (i=j) else decide (i=j))) M:=rfl
theorem big {k:Nat} (h:k < 100000):k < sizeLine:=Nat.lt_of_lt_of_le h (by decide)
def gA:dC:=fun us M Q=>∃ (z:Str) (r:List U) (b:Bool),us=[.tup (.str z :: r)]/\(d9 iG z).isSome=b/\r.length<=1000/\Q (.tup (if b then r else [])) M
local macro_rules | `(tactic| dsimp! only [$xs,*] $[$l]?) => `(tactic| simp only [$xs,*, Bool.false_eq_true, Bool.not_false, Bool.not_true, List.append_nil, List.cons_append, List.getElem?_cons_succ, List.getElem?_cons_zero, List.length_cons, List.length_nil, List.map_cons, List.map_nil, List.nil_append, List.replicate, List.set_cons_succ, List.set_cons_zero, Nat.add_sub_cancel, Nat.reduceAdd, Nat.reduceLeDiff, Nat.reduceSub, Nat.sub_self, Option.getD_some, Option.some.injEq, and_true, CQ, Cu, at2, B5, t5, tO, tB, tF, m3, qK, mZ, xN, uP, kX, A5, Ba, Bc, Ca, cY, decide_false, decide_true, mB, l9, exists_eq_left', if_false, if_true, w6, pY, gG, dQ, dP, d7, dO, d8, dE, fQ, fL, gW, fV, gP, eY, fR, fP, gU, gD, gS, fA, gM, gX, iI, hG, iM, fX, gC, fO, gR, fT, gQ, eZ, gY, gZ, iP, gN, iK, fY, fB, fC, fW, e8, fN, eM, items, tY, jG, oQ, jM, xS, oY, jQ, bX, aH, reduceCtorEq, gT, BG, true_and, t6, qN, nB, tE, nZ, wQ, xA, uC, wN, oA, nE, k5, oB, nV, lW, xX, uI, oO, zA, vC, qJ, n5, w4, tJ, tH, qL, xU, tD, kM, tI, m7, oF, kO, yK, sM, nU, n6, n8, lR, tG, sI, Ct, o5, t7, oG, o6, o4, pH, nG, o7, pT] $[$l]?)
local macro_rules | `(tactic| dsimp? only [$xs,*] $[$l]?) => `(tactic| dsimp! only [$xs,*, eT, hName, iC, gB, bA, lB, m6, hZ, lX, bF, bS, m9, mS, eV, Av] $[$l]?)
theorem DI (F:cZ K "parts_of" "parts_of" uM f fd) (hm:mg "parts_of"=some (.ref f)) (Ay:zR P w K d iG) (AF:mg "SIGNS"=some (.ref d)):Callee P w K mg base 1 "parts_of" gA []:=by
 refine bT F hm Dk (u4 fun _ _ _ _ _ _ _=>rfl) (aG (aW (LD (bU (MP Ay) (aQ (uv 0) aI) (Hb AF)) (pO (own:=false) (uv 0) (mN aI) mP) (bG aB)))) ?_
 rintro us M Q ⟨z,r,b,rfl,hb,hl,q⟩
 refine ⟨rfl,?_⟩
 dsimp? only [hb]
 cases b with
 | true =>
  dsimp? only [Q3]
  exact aU q
 | false =>
  dsimp? only [true_and]
  exact aU q
theorem Kc (F:cZ K "parts" "parts" AJ f fd) (hm:mg "parts"=some (.ref f)) (cP:Callee P w K mg base 1 "parts_of" gA []):Callee P w K mg base 2 "parts" gA []:=by
 refine bT F hm KU (u4 fun _ _ _ _ _ _ _=>rfl) (aG (aW (aM cP (aA (uv 0) aB)))) ?_
 rintro us M Q ⟨z,r,b,rfl,hb,hl,q⟩
 refine ⟨rfl,?_⟩
 dsimp? only [true_and]
 exact ⟨z,r,b,rfl,hb,hl,aU q⟩
theorem oI:(d9 iG (Str.ofString "turn")).isSome=true:=by decide +kernel
theorem pR (o:Op):(d9 iG o.word).isSome=true:=by cases o <;> decide +kernel
def xF:dC:=fun us M Q=>∃ (p:Pt) (t:Tr),us=[p.toU,t.toU]/\(p=.any\/∃ l h,p=.fr l h)/\Q (.bl (cJ p t)) M
theorem yA (F:cZ K "lies_on_leaf" "lies_on_leaf" mI f fd) (hm:mg "lies_on_leaf"=some (.ref f)):Callee P w K mg base 1 "lies_on_leaf" xF []:=by
 refine bT F hm yT (uQ fun _ _ _ _ _ _ _ _=>rfl) (aD (bR (bU eK (aQ (uv 0) aI) cM)
 (aG (aW (Ai eK (aQ (uv 1) aI) cM)))
 bC)
 (aG (aW (GV (Ai eK (aQ (uv 1) aI) cM) (BP (QF Gu Gu (aQ (uv 0) aI) (aQ (uv 1) aI) (aQ (uv 0) aI))))))) ?_
 rintro us M Q ⟨p,t,rfl,hp,q⟩
 refine ⟨rfl,?_⟩
 rcases hp with rfl | ⟨l,h,rfl⟩
 ·cases t <;> (dsimp? only [Pt.toU,Tr.toU,cJ,kD,jW,j9,j8,j5,jZ,j7] at q ⊢;exact aU q)
 ·cases t with
  | num n =>
   dsimp? only [Pt.toU,Tr.toU,cJ,kD,jW,j9,j8,j5,jZ,j7] at q ⊢
   by_cases h1:l<=n
   ·rw [if_pos (decide_eq_true h1)]
    rw [decide_eq_true h1,Bool.true_and] at q
    exact aU q
   ·rw [if_neg (by simpa using h1)]
    rw [decide_eq_false h1,Bool.false_and] at q
    exact aU q
  | _=>dsimp? only [Pt.toU,Tr.toU,cJ,kD,jW,j9,j8,j5,jZ,j7] at q ⊢;exact aU q
theorem vZ (z:Str):([U.str (Str.ofString "any"),U.str (Str.ofString "from")].any fun u=>uV u (.str z))=(decide (Str.ofString "any"=z) || decide (Str.ofString "from"=z)):=by
 have e:∀ a:Str,uV (.str a) (.str z)=decide (a=z):=fun a=>by
  show (a == z)=_
  by_cases h:a=z
  ·subst h;simp
  ·simp [h]
 simp only [List.any_cons,List.any_nil,e,Bool.or_false]
def vH (n:Nat):dC:=fun us M Q=>∃ (p:Pt) (t:Tr),us=[p.toU,t.toU]/\p.dep<=n/\Q (.bl (cJ p t)) M
theorem Nv {n:Nat} (F:cZ K "lies" "lies" yZ f fd) (hm:mg "lies"=some (.ref f)) (lE:mg "all"=none) (oC:mg "zip"=none) (kN:Callee P w K mg base 1 "lies_on_leaf" xF []) (cP:Callee P w K mg base 1 "parts_of" gA []) (wB:Callee P w K mg base 2 "parts" gA [])
  (Df:Callee P w K mg base (n + 3) "lies" (vH n) []):Callee P w K mg base (n + 4) "lies" (vH (n + 1)) []:=by
 refine bT F hm Nm (uQ fun _ _ _ _ _ _ _ _=>rfl) (aD (bR (bU eK (aQ (uv 0) aI) cM)
 (aG (aW l8))
 bC)
 (aD (bR (bU OA (aQ (uv 0) aI) (bG (aA cM (aA cM aB))))
 (aG (aW (aM kN (aA (uv 0) (aA (uv 1) aB)))))
 bC)
 (aD (bR (bU vW (aQ (uv 0) aI) (aQ (uv 1) aI))
 (aG (aW l8))
 bC)
 (aG (aW (fM Fz lE (aA (mX false ["inner","part"] 2 [] (OG oC (aA (aM cP (aA (uv 0) aB)) (aA (aM wB (aA (uv 1) aB)) aB))) (iH (n:=2) (bM (aZ (k:=2) 0 (by dsimp only [b8];decide +kernel)) (bM (aZ (k:=2) 1 (by dsimp only [b8];decide +kernel)) fK))) jH (aM Df (aA (uv 0) (aA (uv 1) aB)))) aB))))))) ?_
 rintro us M Q ⟨p,t,rfl,hd,q⟩
 refine ⟨rfl,?_⟩
 have fl:∀ z:Str,lG (.str z)=true:=fun _=>rfl
 have fl2:[U.str (Str.ofString "any"),U.str (Str.ofString "from")].all lG=true:=rfl
 cases p with
 | hole c =>
  dsimp? only [Pt.toU,cJ,kD,jW,j9,j8,j5,jZ,j7] at q ⊢
  exact aU q
 | any =>
  dsimp? only [Pt.toU,kD,jW,j9,j8,j5,jZ,j7,vZ,fl,fl2,Bool.true_or,Bool.or_true]
  exact ⟨.any,t,rfl,.inl rfl,aU q⟩
 | fr l h =>
  dsimp? only [Pt.toU,kD,jW,j9,j8,j5,jZ,j7,vZ,fl,fl2,Bool.true_or,Bool.or_true]
  exact ⟨.fr l h,t,rfl,.inr ⟨l,h,rfl⟩,aU q⟩
 | turn a =>
  have hda:a.dep<=n:=by simp only [Pt.dep] at hd;omega
  cases t with
  | turn b =>
   dsimp? only [Pt.toU,Tr.toU,cJ,kD,jW,j9,j8,j5,jZ,j7,vZ,fl,fl2,Bool.or_false] at q ⊢
   refine dX (S:=⟨none,eR [a.toU] [b.toU]⟩) (M1:=M) [.bl (cJ a b)] (fun R r=>?_) rfl (show 1<=sizeLine by decide) (fun a e=>by cases e) ?_ ?_
   ·dsimp? only [true_and]
    refine ⟨_,_,true,rfl,oI,by simp,⟨_,_,true,rfl,oI,by simp,?_⟩⟩
    dsimp? only [true_and]
    exact r
   ·intro j x y hx hy M' _ R r'
    match j,hx,hy with
    | 0,hx,hy =>
     cases hx;cases hy
     dsimp? only [true_and]
     exact ⟨a,b,rfl,hda,r'⟩
    | j + 1,hx,hy=>cases hy
   ·dsimp? only [pQ,Option.map_some,List.all_cons,List.all_nil,Bool.and_true]
    exact aU q
  | _=>dsimp? only [Pt.toU,Tr.toU,cJ,kD,jW,j9,j8,j5,jZ,j7,vZ,fl,fl2,Bool.or_false] at q ⊢;exact aU q
 | two o a c =>
  have hda:a.dep<=n/\c.dep<=n:=by simp only [Pt.dep] at hd;omega
  cases t with
  | two o' b e =>
   dsimp? only [Pt.toU,Tr.toU,cJ,kD,jW,j9,j8,j5,jZ,j7,vZ,fl,fl2,Bool.or_false,Op.word_inj] at q ⊢
   by_cases ho:o=o'
   ·subst ho
    dsimp? only [Bool.true_and] at q ⊢
    refine dX (S:=⟨none,eR [a.toU,c.toU] [b.toU,e.toU]⟩) (M1:=M) [.bl (cJ a b),.bl (cJ c e)] (fun R r=>?_) rfl (show 2<=sizeLine by decide) (fun a e=>by cases e) ?_ ?_
    ·dsimp? only [true_and]
     refine ⟨_,_,true,rfl,pR o,by simp,⟨_,_,true,rfl,pR o,by simp,?_⟩⟩
     dsimp? only [true_and]
     exact r
    ·intro j x y hx hy M' _ R r'
     match j,hx,hy with
     | 0,hx,hy =>
      cases hx;cases hy
      dsimp? only [true_and]
      exact ⟨a,b,rfl,hda.1,r'⟩
     | 1,hx,hy =>
      cases hx;cases hy
      dsimp? only [true_and]
      exact ⟨c,e,rfl,hda.2,r'⟩
     | j + 2,hx,hy=>cases hy
    ·dsimp? only [pQ,Option.map_some,List.all_cons,List.all_nil,Bool.and_true]
     exact aU q
   ·dsimp? only [ho,Bool.false_and] at q ⊢
    exact aU q
  | _=>dsimp? only [Pt.toU,Tr.toU,cJ,kD,jW,j9,j8,j5,jZ,j7,vZ,fl,fl2,Bool.or_false] at q ⊢;exact aU q
theorem Cj:∀ p:Pt,1<=p.dep
 | .hole _=>Nat.le_refl _
 | .any=>Nat.le_refl _
 | .fr _ _=>Nat.le_refl _
 | .turn a=>by simp only [Pt.dep];omega
 | .two o a b=>by simp only [Pt.dep];omega
theorem Ko:∀ p:Tr,1<=p.dep
 | .num _=>Nat.le_refl _
 | .name _=>Nat.le_refl _
 | .turn a=>by simp only [Tr.dep];omega
 | .two o a b=>by simp only [Tr.dep];omega
theorem CD (F:cZ K "lies" "lies" yZ f fd) (hm:mg "lies"=some (.ref f)) (lE:mg "all"=none) (oC:mg "zip"=none) (kN:Callee P w K mg base 1 "lies_on_leaf" xF []) (cP:Callee P w K mg base 1 "parts_of" gA []) (wB:Callee P w K mg base 2 "parts" gA []):∀ n,Callee P w K mg base (n + 3) "lies" (vH n) []
 | 0=>by
  have no:∀ us M Q,¬ vH 0 us M Q:=fun us M Q h=>by
   obtain ⟨p,t,_,h,_⟩:=h
   have:=Cj p
   omega
  refine ⟨f,fd,["pattern","tree"],[],[],⟨fun vs H Q E h=>?_,fun A outer s H args us vs Q E _ _ _ _ h=>?_⟩,hm,F.kp,F.binds (uQ fun _ _ _ _ _ _ _ _=>rfl),.nil,fun H M=>.nil⟩
  ·obtain ⟨us,M,Q',_,_,h,_⟩:=h;exact absurd h (no us M Q')
  ·obtain ⟨us,M,Q',_,_,h,_⟩:=h;exact absurd h (no us M Q')
 | n + 1=>Nv F hm lE oC kN cP wB (CD F hm lE oC kN cP wB n)
theorem mulL {i j:Int} (h1:-(2 ^ 64) < i) (h2:i < 2 ^ 64):tS i j:=.inl (.inl ⟨h1,h2⟩)
def dM (l:List Str):U:=.tup (l.map .str)
def i7:Pt->PyData
 | .hole c=>.tuple [.str "at",.str c]
 | .any=>.tuple [.str "any"]
 | .fr l h=>.tuple [.str "from",.int l,.int h]
 | .turn a=>.tuple [.str "turn",i7 a]
 | .two o a b=>.tuple [.str o.word,i7 a,i7 b]
theorem zD:∀ p:Pt,toD p.toU=some (i7 p)
 | .hole c=>by simp [Pt.toU,toD,eD,i7]
 | .any=>by simp [Pt.toU,toD,eD,i7]
 | .fr l h=>by simp [Pt.toU,toD,eD,i7]
 | .turn a=>by simp [Pt.toU,toD,eD,i7,zD a]
 | .two o a b=>by simp [Pt.toU,toD,eD,i7,zD a,zD b]
theorem Cz:∀ p:Pt,p.ok->(i7 p).canLay0=true
 | .hole c,h=>by
  have h':PyData.strOk c=true:=h
  simp only [i7,PyData.canLay0,PyData.canLayAll0,h'];decide +kernel
 | .any,_=>by decide +kernel
 | .fr l h,_=>by simp only [i7,PyData.canLay0,PyData.canLayAll0];decide +kernel
 | .turn a,h=>by simp only [i7,PyData.canLay0,PyData.canLayAll0,Cz a h];decide +kernel
 | .two o a b,h=>by
  have:PyData.strOk o.word=true:=by cases o <;> decide +kernel
  simp only [i7,PyData.canLay0,PyData.canLayAll0,Cz a h.1,Cz b h.2,this];decide +kernel
def mM:Tr->PyData
 | .num n=>.tuple [.str "num",.int n]
 | .name x=>.tuple [.str "name",.str x]
 | .turn a=>.tuple [.str "turn",mM a]
 | .two o a b=>.tuple [.str o.word,mM a,mM b]
theorem FU:∀ p:Tr,toD p.toU=some (mM p)
 | .num c=>by simp [Tr.toU,toD,eD,mM]
 | .name c=>by simp [Tr.toU,toD,eD,mM]
 | .turn a=>by simp [Tr.toU,toD,eD,mM,FU a]
 | .two o a b=>by simp [Tr.toU,toD,eD,mM,FU a,FU b]
theorem Kt:∀ p:Tr,p.ok->(mM p).canLay0=true
 | .num c,h=>by simp only [mM,PyData.canLay0,PyData.canLayAll0];decide +kernel
 | .name c,h=>by
  have h':PyData.strOk c=true:=h.1
  simp only [mM,PyData.canLay0,PyData.canLayAll0,h'];decide +kernel
 | .turn a,h=>by simp only [mM,PyData.canLay0,PyData.canLayAll0,Kt a h];decide +kernel
 | .two o a b,h=>by
  have:PyData.strOk o.word=true:=by cases o <;> decide +kernel
  simp only [mM,PyData.canLay0,PyData.canLayAll0,Kt a h.1,Kt b h.2,this];decide +kernel
def Ru (p:Pt):U:=.tup [p.toU,.int (p.dep:Nat)]
def Af:List Pt->Nat
 | []=>0
 | p :: r=>p.holes + Af r
theorem Jf:∀ l r:List Pt,Af (l++r)=Af l + Af r
 | [],_=>by simp [Af]
 | t :: l,r=>by simp [Af,Jf l r];omega
def RB (n:Int):Op:=if n % 3=0 then .sum else if n % 3=1 then .less else .by_
theorem aE {u v:US} {D:qB} {τ:SU} {M:aF} (h:∀ V:SU->aF->Prop,V=v D->u { D with nx:=V } τ M):mS u v D τ M:=h _ rfl
theorem bD {c:UT} {t u:US} {D:qB} {τ:SU} {M:aF} (h:∀ A B:aF->Prop,A=t D τ->B=u D τ->c τ M fun b M1=>if b=true then A M1 else B M1):lX c t u D τ M:=h _ _ rfl rfl
def aN (p:List Nat):U:=.tup (p.map fun (n:Nat)=>.int (n:Int))
def gH (x:List Nat × Pt):U:=.tup [aN x.1,x.2.toU]
def v8:Pt->List Nat->List (List Nat × Pt)
 | .turn a,pl=>v8 a (pl++[0])
 | .two _ a b,pl=>v8 a (pl++[0])++v8 b (pl++[1])
 | p,pl=>[(pl,p)]
theorem sF:∀ (p:Pt) (pl:List Nat),(v8 p pl).map (·.2)=p.ends
 | .turn a,pl=>by simp only [v8,Pt.ends,sF a]
 | .two _ a b,pl=>by simp only [v8,Pt.ends,List.map_append,sF a,sF b]
 | .hole _,pl=>rfl
 | .any,pl=>rfl
 | .fr _ _,pl=>rfl
def Fj:Pt->Tr->List U
 | .any,.name x=>[.str x]
 | .fr _ _,.num n=>[.int n]
 | .turn p,.turn a=>Fj p a
 | .two _ p q,.two _ a b=>Fj p a++Fj q b
 | _,_=>[]
theorem MQ (l:List Int) (k:Nat) (h:k < l.length):eL (l.map U.int) (k:Int)=some (.int l[k]):=iE (by rw [List.getElem?_map,List.getElem?_eq_getElem h];rfl)
def lK:dR:=fun x y M Q=>match x,y with
 | .bl i,.bl j=>Q (.bl (decide (i=j))) M
 | _,_=>False
def Pt.parts:Pt->List Pt
 | .turn a=>[a]
 | .two _ a b=>[a,b]
 | _=>[]
def bN:Pt->List Nat->List (List Nat × Pt)
 | .turn a,pl=>(pl,.turn a) :: bN a (pl++[0])
 | .two o a b,pl=>(pl,.two o a b) :: (bN a (pl++[0])++bN b (pl++[1]))
 | p,pl=>[(pl,p)]
def Pt.places:Pt->List (List Nat)
 | .turn a=>[] :: a.places.map (0 :: ·)
 | .two _ a b=>[] :: (a.places.map (0 :: ·)++b.places.map (1 :: ·))
 | _=>[[]]
theorem jL:∀ (p:Pt) (pl:List Nat),(bN p pl).map (·.1)=p.places.map (pl++·)
 | .turn a,pl=>by simp [bN,Pt.places,jL a]
 | .two o a b,pl=>by
  simp only [bN,Pt.places,List.map_cons,List.map_append,jL a,jL b,List.map_map,List.append_nil]
  simp [Function.comp_def]
 | .hole _,pl=>by simp [bN,Pt.places]
 | .any,pl=>by simp [bN,Pt.places]
 | .fr _ _,pl=>by simp [bN,Pt.places]
theorem places_len:∀ p:Pt,p.places.length < 2 ^ p.dep
 | .turn a=>by have:=places_len a;simp only [Pt.places,Pt.dep,List.length_cons,List.length_map,Nat.pow_succ];omega
 | .two _ a b=>by
  have h1:=places_len a
  have h2:=places_len b
  have h3:2 ^ a.dep<=2 ^ max a.dep b.dep:=Nat.pow_le_pow_right (by decide) (Nat.le_max_left _ _)
  have h4:2 ^ b.dep<=2 ^ max a.dep b.dep:=Nat.pow_le_pow_right (by decide) (Nat.le_max_right _ _)
  simp only [Pt.places,Pt.dep,Nat.pow_succ,List.length_cons,List.length_append,List.length_map];omega
 | .hole _=>by simp [Pt.places,Pt.dep]
 | .any=>by simp [Pt.places,Pt.dep]
 | .fr _ _=>by simp [Pt.places,Pt.dep]
theorem kZ:∀ (p:Pt) (pl:List Nat),pl∈p.places->pl.length < p.dep
 | .turn a,pl,h=>by
  simp only [Pt.places,List.mem_cons,List.mem_map] at h
  rcases h with rfl | ⟨q,hq,rfl⟩
  ·simp [Pt.dep]
  ·have:=kZ a q hq;simp only [Pt.dep,List.length_cons];omega
 | .two o a b,pl,h=>by
  simp only [Pt.places,List.mem_cons,List.mem_append,List.mem_map] at h
  rcases h with rfl | ⟨q,hq,rfl⟩ | ⟨q,hq,rfl⟩
  ·simp [Pt.dep]
  ·have:=kZ a q hq;simp only [Pt.dep,List.length_cons];omega
  ·have:=kZ b q hq;simp only [Pt.dep,List.length_cons];omega
 | .hole _,pl,h=>by simp [Pt.places] at h;subst h;simp [Pt.dep]
 | .any,pl,h=>by simp [Pt.places] at h;subst h;simp [Pt.dep]
 | .fr _ _,pl,h=>by simp [Pt.places] at h;subst h;simp [Pt.dep]
def oV (n:Nat):dC:=fun us M Q=>∃ p:Pt,us=[p.toU]/\p.dep<=n/\n<=10/\Q (.lst (p.places.map aN)) M
theorem Rj:(d9 iG (Str.ofString "at")).isSome=false:=by decide +kernel
theorem LF:(d9 iG (Str.ofString "any")).isSome=false:=by decide +kernel
theorem GA:(d9 iG (Str.ofString "from")).isSome=false:=by decide +kernel
theorem Bb (p:Pt):∃ z r,p.toU=.tup (.str z :: r)/\(d9 iG z).isSome=!p.leafy/\(p.leafy=false->r=p.parts.map Pt.toU)/\r.length<=3:=by
 cases p with
 | hole c=>exact ⟨_,_,rfl,Rj,(fun h=>by cases h),by simp⟩
 | any=>exact ⟨_,_,rfl,LF,(fun h=>by cases h),by simp⟩
 | fr l h=>exact ⟨_,_,rfl,GA,(fun h=>by cases h),by simp⟩
 | turn a=>exact ⟨_,_,rfl,oI,fun _=>rfl,by simp⟩
 | two o a b=>exact ⟨_,_,rfl,pR o,fun _=>rfl,by simp⟩
theorem F4 {p:Pt} (h:p.leafy=true):p.parts=[]:=by cases p <;> first | rfl | cases h
def fJ:Nat->List Pt->List (List Nat)
 | _,[]=>[]
 | k,a :: r=>a.places.map (k :: ·)++fJ (k + 1) r
theorem places_eq (p:Pt):p.places=[] :: fJ 0 p.parts:=by cases p <;> simp [Pt.places,Pt.parts,fJ]
theorem FN (l:List Pt) (a:Pt):∀ k,fJ k (l++[a])=fJ k l++a.places.map ((k + l.length) :: ·):=by
 induction l with
 | nil=>intro k;simp [fJ]
 | cons b l ih=>intro k;simp only [List.cons_append,fJ,ih,List.length_cons,List.append_assoc];rw [show k + 1 + l.length=k + (l.length + 1) by omega]
theorem JC (p:Pt) (i:Nat):(fJ 0 (p.parts.take i)).length + 1<=p.places.length:=by
 have:∀ (l:List Pt) (k j:Nat),(fJ k (l.take j)).length<=(fJ k l).length:=by
  intro l
  induction l with
  | nil=>intro k j;simp [fJ]
  | cons a l ih =>
   intro k j
   cases j with
   | zero=>simp [fJ]
   | succ j=>simp only [List.take_succ_cons,fJ,List.length_append];have:=ih (k + 1) j;omega
 have h1:=this p.parts 0 i
 rw [places_eq p,List.length_cons]
 omega
theorem K0 {p a:Pt} {i:Nat} (h:p.parts[i]?=some a):a.dep < p.dep:=by
 have hm:=List.mem_of_getElem? h
 cases p with
 | turn b =>
  have:a=b:=by simpa [Pt.parts] using hm
  subst this;simp only [Pt.dep];omega
 | two o b c =>
  have:a=b\/a=c:=by simpa [Pt.parts] using hm
  simp only [Pt.dep]
  rcases this with rfl | rfl <;> omega
 | _=>cases hm
theorem Dd {n:Nat} (F:cZ K "places_of" "places_of" jK f fd) (hm:mg "places_of"=some (.ref f)) (cD:mg "enumerate"=none)
  (cP:Callee P w K mg base 1 "parts_of" gA []) (iJ:Callee P w K mg base (n + 1) "places_of" (oV n) []):Callee P w K mg base (n + 2) "places_of" (oV (n + 1)) []:=by
 refine bT F hm fG (u4 fun _ _ _ _ _ _ _=>rfl) (aD (aR 1 fG.nd (cR (own:=true) (aA (bG aB) aB)))
 (aD (eB (o9 cD (aA (aM cP (aA (uv 0) aB)) aB)) (iH (n:=2) (bM (aZ (k:=1000) 2 fG.nd) (bM (aZ (k:=1000) 3 fG.nd) fK)))
 (aG (lQ (Bk (uv 1) (aA (mX false ["place","number"] 1 [2] (eX (aM iJ (aA (uv 3) aB))) (aZ (k:=1) 0 (by dsimp only [b8];decide +kernel)) jH (cX (own:=false) (bG (aA (uv 1) aB)) (uv 0))) aB)))))
 (aG (aW (uv 1))))) ?_
 rintro us M Q ⟨t,rfl,hd,hz,q⟩
 refine ⟨rfl,?_⟩
 have hbig:∀ a:Pt,a.dep<=10->a.places.length<=1024:=fun a ha=>by
  have h1:=places_len a
  have h2:2 ^ a.dep<=2 ^ 10:=Nat.pow_le_pow_right (by decide) ha
  omega
 dsimp? only [fD,lK]
 refine fun p hp=>?_
 refine eS (S:=⟨none,numbered (t.parts.map Pt.toU)⟩) (M1:=mup M p (.lst [.tup []])) (fun R r=>?_)
  (fun i τ Mi=>∃ b c,τ=[some t.toU,some (.ref p),b,c]/\Mi=mup M p (.lst (([] :: fJ 0 (t.parts.take i)).map aN))) ⟨none,none,rfl,rfl⟩ nk ?_ ?_
 ·obtain ⟨z,rr,e,e1,e2,e3⟩:=Bb t
  refine ⟨z,rr,!t.leafy,by rw [<- e];rfl,e1,by omega,?_⟩
  cases hl:t.leafy with
  | true=>simp only [hl,Bool.not_true,Bool.false_eq_true,if_false];rw [F4 hl] at r;exact r
  | false=>simp only [hl,Bool.not_false,if_true];rw [e2 hl];exact r
 ·rintro i x τ Mi e ⟨b,c,rfl,rfl⟩
  obtain ⟨u,hu,rfl⟩:=kA e
  rw [List.getElem?_map] at hu
  cases hp':t.parts[i]? with
  | none=>rw [hp'] at hu;cases hu
  | some a =>
   rw [hp'] at hu
   cases hu
   have ha:=K0 hp'
   have hin:fJ 0 (t.parts.take (i + 1))=fJ 0 (t.parts.take i)++a.places.map (i :: ·):=by
    have hlt:=(List.getElem?_eq_some_iff.mp hp').1
    rw [List.take_add_one,hp']
    have:=FN (t.parts.take i) a 0
    rw [List.length_take,Nat.min_eq_left (Nat.le_of_lt hlt),Nat.zero_add] at this
    exact this
   have hb1:=hbig a (by omega)
   dsimp? only [fD,lK]
   refine ⟨AG,dX (S:=⟨none,a.places.map aN⟩) (M1:=mup M p (MO.lst (aN [] :: List.map aN (fJ 0 (List.take i t.parts))))) (a.places.map fun pl=>aN (i :: pl)) (fun R r'=>⟨a,rfl,by omega,by omega,r'⟩) (by simp) ?_ (fun a e=>by cases e) ?_ ?_⟩
   ·show (a.places.map aN).length<=sizeLine
    rw [List.length_map]
    exact small (by omega)
   ·intro j x y hx hy M' _ R r'
    have hx':(a.places.map aN)[j]?=some x:=hx
    rw [List.getElem?_map] at hx' hy
    cases hpl:a.places[j]? with
    | none=>rw [hpl] at hx';cases hx'
    | some pl =>
     rw [hpl] at hx' hy
     cases hx'
     cases hy
     have h1:=kZ a pl (List.mem_of_getElem? hpl)
     dsimp? only [aN,fD,lK]
     refine ⟨small ?_,?_⟩
     ·simp only [List.length_cons,List.length_nil,List.length_map];omega
     ·simpa [aN] using r'
   ·have h1:=JC t i
    have h2:=hbig t (by omega)
    dsimp? only [fD,lK]
    refine ⟨small ?_,_,_,rfl,?_⟩
    ·simp only [List.length_map];omega
    ·rw [hin,List.map_append,List.map_map];rfl
 ·rintro τ Mi ⟨b,c,rfl,rfl⟩
  rw [kC,List.length_map,List.take_length,<- places_eq]
  dsimp? only [fD,lK]
  exact ⟨_,M,(Sub.refl M).mup hp,.inr ⟨p,_,rfl,aH,hp,rfl⟩,q⟩
theorem zM (F:cZ K "places_of" "places_of" jK f fd) (hm:mg "places_of"=some (.ref f)) (cD:mg "enumerate"=none) (cP:Callee P w K mg base 1 "parts_of" gA []):∀ n,Callee P w K mg base (n + 1) "places_of" (oV n) []
 | 0=>by
  have no:∀ us M Q,¬ oV 0 us M Q:=fun us M Q h=>by
   obtain ⟨p,_,h,_⟩:=h
   have:=Cj p
   omega
  refine ⟨f,fd,["shape"],[],[],⟨fun vs H Q E h=>?_,fun A outer s H args us vs Q E _ _ _ _ h=>?_⟩,hm,F.kp,F.binds (u4 fun _ _ _ _ _ _ _=>rfl),.nil,fun H M=>.nil⟩
  ·obtain ⟨us,M,Q',_,_,h,_⟩:=h;exact absurd h (no us M Q')
  ·obtain ⟨us,M,Q',_,_,h,_⟩:=h;exact absurd h (no us M Q')
 | n + 1=>Dd F hm cD cP (zM F hm cD cP n)
def jC:U->Nat->Option U
 | .tup (.str z :: r),k=>if (d9 iG z).isSome then (if r.length<=1000 then r[k]? else none) else none
 | _,_=>none
def jF:U->List Nat->Option U
 | u,[]=>some u
 | u,k :: pl=>(jC u k).bind fun v=>jF v pl
theorem Jd {h w:U} {k:Nat} (e:jC h k=some w):∃ z r,h=.tup (.str z :: r)/\(d9 iG z).isSome=true/\r.length<=1000/\r[k]?=some w:=by
 match h,e with
 | .tup (.str z :: r),e =>
  simp only [jC] at e
  split at e
  ·rename_i h1
   split at e
   ·rename_i h2
    exact ⟨z,r,rfl,h1,h2,e⟩
   ·cases e
  ·cases e
 | .tup [],e=>cases e
 | .tup (.non :: _),e=>cases e
 | .tup (.bl _ :: _),e=>cases e
 | .tup (.int _ :: _),e=>cases e
 | .tup (.ty _ :: _),e=>cases e
 | .tup (.ref _ :: _),e=>cases e
 | .tup (.tup _ :: _),e=>cases e
 | .tup (.lst _ :: _),e=>cases e
 | .non,e=>cases e
 | .bl _,e=>cases e
 | .int _,e=>cases e
 | .str _,e=>cases e
 | .ty _,e=>cases e
 | .ref _,e=>cases e
 | .lst _,e=>cases e
theorem CU:∀ (l:List Nat) (u:U) (k:Nat),jF u (l++[k])=(jF u l).bind fun v=>jC v k
 | [],u,k=>by simp only [List.nil_append,jF,Option.bind_some];cases jC u k <;> rfl
 | j :: l,u,k=>by
  simp only [List.cons_append,jF]
  cases jC u j with
  | none=>rfl
  | some v=>exact CU l v k
theorem BI:∀ (l r:List Nat) (u:U),jF u l=none->jF u (l++r)=none
 | [],r,u,z=>by cases z
 | j :: l,r,u,z=>by
  simp only [List.cons_append,jF] at z ⊢
  cases hj:jC u j with
  | none=>rfl
  | some v=>rw [hj] at z;exact BI l r v z
def zF:dC:=fun us M Q=>∃ (u v:U) (pl:List Nat),us=[u,aN pl]/\jF u pl=some v/\Q v M
theorem Dl (F:cZ K "shape_at" "shape_at" uN f fd) (hm:mg "shape_at"=some (.ref f)) (cP:Callee P w K mg base 1 "parts_of" gA []):Callee P w K mg base 2 "shape_at" zF []:=by
 refine bT F hm m4 (uQ fun _ _ _ _ _ _ _ _=>rfl) (aD (aR 2 m4.nd (uv 0))
 (aD (eB (eX (uv 1)) (aZ (k:=1000) 3 m4.nd)
 (aG (aR 2 m4.nd (aQ (aM cP (aA (uv 2) aB)) (uv 3)))))
 (aG (aW (uv 2))))) ?_
 rintro us M Q ⟨u,v,pl,rfl,hpl,q⟩
 refine ⟨rfl,?_⟩
 dsimp? only [fD,lK]
 refine eS (S:=⟨none,pl.map fun (n:Nat)=>U.int (n:Int)⟩) (M1:=M) (fun R r=>r)
  (fun i τ Mi=>∃ (h:U) (c:Option U),τ=[some u,some (aN pl),some h,c]/\Mi=M/\jF u (pl.take i)=some h) ⟨u,none,rfl,rfl,rfl⟩ nk ?_ ?_
 ·rintro i x τ Mi e ⟨h,c,rfl,rfl,hh⟩
  have e':(pl.map fun (n:Nat)=>U.int (n:Int))[i]?=some x:=e
  rw [List.getElem?_map] at e'
  cases hk:pl[i]? with
  | none=>rw [hk] at e';cases e'
  | some k =>
   rw [hk] at e'
   cases e'
   have hnx:jF u (pl.take (i + 1))=jC h k:=by
    rw [List.take_add_one,hk]
    show jF u (pl.take i++[k])=_
    rw [CU,hh];rfl
   cases hs:jC h k with
   | none =>
    rw [hs] at hnx
    have:=BI (pl.take (i + 1)) (pl.drop (i + 1)) u hnx
    rw [List.take_append_drop,hpl] at this
    cases this
   | some w' =>
    rw [hs] at hnx
    obtain ⟨z,r,rfl,hz,hr,hs'⟩:=Jd hs
    dsimp? only [fD,lK]
    refine ⟨z,r,true,rfl,hz,hr,?_⟩
    dsimp? only [fD,lK]
    exact ⟨w',iE hs',w',_,rfl,hnx⟩
 ·rintro τ Mi ⟨h,c,rfl,rfl,hh⟩
  simp only [List.length_map,List.take_length] at hh
  rw [hpl] at hh
  cases hh
  dsimp? only [fD,lK]
  exact aU q
theorem Fi (F:cZ K "tree_at" "tree_at" vB f fd) (hm:mg "tree_at"=some (.ref f)) (sH:Callee P w K mg base 2 "shape_at" zF []):Callee P w K mg base 3 "tree_at" zF []:=by
 refine bT F hm FV (uQ fun _ _ _ _ _ _ _ _=>rfl) (aG (aW (aM sH (aA (uv 0) (aA (uv 1) aB))))) ?_
 rintro us M Q ⟨u,v,pl,rfl,hpl,q⟩
 refine ⟨rfl,?_⟩
 dsimp? only [fD,lK]
 exact ⟨u,v,pl,rfl,hpl,aU q⟩
theorem AS (a:U):jC (.tup [.str (Str.ofString "turn"),a]) 0=some a:=by
 simp only [jC];rw [if_pos oI,if_pos (by simp)];rfl
theorem AH (o:Op) (a b:U):jC (.tup [.str o.word,a,b]) 0=some a:=by
 simp only [jC];rw [if_pos (pR o),if_pos (by simp)];rfl
theorem AM (o:Op) (a b:U):jC (.tup [.str o.word,a,b]) 1=some b:=by
 simp only [jC];rw [if_pos (pR o),if_pos (by simp)];rfl
theorem v7:∀ (p:Pt) (pre:List Nat) (e:List Nat × Pt),e∈bN p pre->∃ s,e.1=pre++s/\jF p.toU s=some e.2.toU
 | .turn a,pre,e,h=>by
  simp only [bN] at h
  rcases List.mem_cons.mp h with rfl | h
  ·exact ⟨[],by simp,rfl⟩
  ·obtain ⟨s,h1,h2⟩:=v7 a _ e h
   refine ⟨0 :: s,by rw [h1];simp,?_⟩
   simp only [jF,Pt.toU,AS,Option.bind_some,h2]
 | .two o a b,pre,e,h=>by
  simp only [bN] at h
  rcases List.mem_cons.mp h with rfl | h
  ·exact ⟨[],by simp,rfl⟩
  ·rcases List.mem_append.mp h with h | h
   ·obtain ⟨s,h1,h2⟩:=v7 a _ e h
    refine ⟨0 :: s,by rw [h1];simp,?_⟩
    simp only [jF,Pt.toU,AH,Option.bind_some,h2]
   ·obtain ⟨s,h1,h2⟩:=v7 b _ e h
    refine ⟨1 :: s,by rw [h1];simp,?_⟩
    simp only [jF,Pt.toU,AM,Option.bind_some,h2]
 | .hole _,pre,e,h=>by cases List.mem_singleton.mp h;exact ⟨[],by simp,rfl⟩
 | .any,pre,e,h=>by cases List.mem_singleton.mp h;exact ⟨[],by simp,rfl⟩
 | .fr _ _,pre,e,h=>by cases List.mem_singleton.mp h;exact ⟨[],by simp,rfl⟩
def zN (e:List Nat × Pt):Bool:=decide (e.2.holes=0)
def fU:U->Option U
 | .tup [a,.tup (.str z :: r)]=>if (!decide (z=Str.ofString "at")) && !(d9 iG z).isSome then some (.tup [a,.tup (.str z :: r)]) else none
 | _=>none
theorem Rl (e:List Nat × Pt):fU (gH e)=if e.2.leafy && zN e then some (gH e) else none:=by
 obtain ⟨pl,q⟩:=e
 have e1:decide (Str.ofString "at"=Str.ofString "at")=true:=by simp
 cases q with
 | hole c=>simp only [gH,Pt.toU,fU,e1,Pt.leafy,zN,Pt.holes];rfl
 | any=>simp only [gH,Pt.toU,fU,kD,jW,j9,j8,j5,jZ,j7,LF,Pt.leafy,zN,Pt.holes];rfl
 | fr l h=>simp only [gH,Pt.toU,fU,kD,jW,j9,j8,j5,jZ,j7,GA,Pt.leafy,zN,Pt.holes];rfl
 | turn a=>simp only [gH,Pt.toU,fU,kD,jW,j9,j8,j5,jZ,j7,oI,Pt.leafy];rfl
 | two o a b=>simp only [gH,Pt.toU,fU,kD,jW,j9,j8,j5,jZ,j7,pR,Pt.leafy];rfl
theorem mD {M:aF} {p:Addr} {o:MO} (h:M p=some o):mup M p o=M:=by
 funext x
 by_cases e:x=p
 ·subst e;rw [aH,h]
 ·rw [aO e]
def cS (ns:List Int) (a b c:Int):List U:=[.lst (ns.map .int),.int a,.int b,.int c]
def kY:dC:=fun us M Q=>∃ (t:Addr) (ns:List Int) (a b c m:Int),us=[.ref t,.int m]/\0 < m/\m < 2 ^ 64/\M t=some (.lst (cS ns a b c))/\0<=a/\a<=1000000/\∀ n a' b' c':Int,0<=n->n < m->a<=a'->a'<=a + 1->Q (.int n) (mup M t (.lst (cS ns a' b' c')))
local macro_rules | `(tactic| simp! only [$xs,*] $[$l]?) => `(tactic| simp only [$xs,*, Bool.false_eq_true, Bool.not_false, Bool.not_true, List.append_nil, List.cons_append, List.getElem?_cons_succ, List.getElem?_cons_zero, List.length_cons, List.length_nil, List.map_cons, List.map_nil, List.nil_append, List.replicate, List.set_cons_succ, List.set_cons_zero, Nat.add_sub_cancel, Nat.reduceAdd, Nat.reduceLeDiff, Nat.reduceSub, Nat.sub_self, Option.getD_some, Option.some.injEq, and_true, CQ, Cu, at2, B5, t5, tO, tB, tF, m3, qK, mZ, xN, rP, uP, kX, A5, Ba, Bc, Ca, cY, decide_false, decide_true, mB, l9, exists_eq_left', if_false, if_true, w6, pY, gG, dQ, dP, d7, dO, d8, dE, fQ, fL, gW, fV, gP, eY, fR, fP, gU, gD, gS, fA, gM, gX, iI, hG, iM, fX, gC, fO, gR, fT, gQ, eZ, gY, gZ, iP, gN, iK, fY, fB, fC, fW, e8, fN, eM, items, tY, jG, oQ, jM, xS, oY, jQ, bX, aH, reduceCtorEq, gT, BG, true_and, t6, qN, nB, tE, nZ, wQ, xA, uC, wN, oA, nE, k5, oB, nV, lW, xX, uI, oO, zA, vC, qJ, n5, w4, xH, tJ, tH, qL, xU, tD, kM, tI, m7, oF, kO, yK, sM, nU, vL, Ah, n6, n8, xJ, Av, lR, tG, sI, Ct, o5, t7, fD, oG, o6, o4, pH, nG, o7, pT] $[$l]?)
theorem LV (F:cZ K "_law_draw" "_law_draw" sT f fd) (hm:mg "_law_draw"=some (.ref f)) (bZ:mg "len"=none):Callee P w K mg base 1 "_law_draw" kY []:=by
 refine bT F hm iN (uQ fun _ _ _ _ _ _ _ _=>rfl) (aD (bR (bU eK (aQ (uv 0) aI) aI)
 (aD (aR 2 iN.nd (aQ (uv 0) aI))
 (aD (lN (cX (own:=false) (uv 2) aI) (uv 0) aI)
 (aD (aR 3 iN.nd aI)
 (aD (bR (bU AD (fM i9 bZ (aA (aQ (uv 0) aI) aB)) aI)
 (aG (aR 3 iN.nd (aQ (aQ (uv 0) aI) (lA (uv 2) (fM i9 bZ (aA (aQ (uv 0) aI) aB))))))
 bC)
 (aD (bR (kS.pt (l0 (bU Rc (uv 2) (fM i9 bZ (aA (aQ (uv 0) aI) aB))) (nD (bU t4 (uv 3) (oT aI aI)))))
 (aD (aR 4 iN.nd (cX (own:=false) (cX (own:=false) (lA (rX (own:=false) (uv 2) (uv 2)) aI) (rX (own:=false) aI (uv 2))) aI))
 (aD (aR 4 iN.nd (lA (rX (own:=false) (cX (own:=false) (lA (uv 3) aI) aI) (uv 4)) aI))
 (aG (aW (lA (lA (cX (own:=false) (Aw (lA (rX (own:=false) (uv 4) (uv 4)) aI) aI) (rX (own:=false) aI (uv 2))) aI) (uv 1))))))
 bC)
 (aD (lN (iT (uv 3) (oT aI aI)) (uv 0) aI)
 (aG (lN aI (uv 0) aI))))))))
 bC)
 (aD (lN (iT (aQ (uv 0) aI) aI) (uv 0) aI)
 (aD (aR 5 iN.nd (aQ (uv 0) aI))
 (aD (lN (Aw (uv 5) (uv 1)) (uv 0) aI)
 (aG (aW (lA (uv 5) (uv 1)))))))) ?_
 rintro us M Q ⟨t,ns,a,b,c,m,rfl,hm0,hm1,hM,ha0,ha1,q⟩
 refine ⟨rfl,?_⟩
 have pw:AN 10 18:=⟨by decide,by decide,by decide⟩
 have hMM:=mD hM
 rw [<- hMM]
 refine aE fun V hV=>?_
 have tail:∀ (a' b' c':Int) (x2 x3 x4 x5:Option U),a<=a'->a'<=a + 1->V [some (.ref t),some (.int m),x2,x3,x4,x5] (mup M t (.lst (cS ns a' b' c'))):=by
  intro a' b' c' x2 x3 x4 x5 h1 h2
  subst hV
  refine aE fun V1 hV1=>?_
  simp! only [eV,cS]
  refine ⟨3,by decide,?_⟩
  simp only [bX,List.set_cons_succ,List.set_cons_zero]
  subst hV1
  refine aE fun V1 hV1=>?_
  simp! only [bA,hName]
  subst hV1
  refine aE fun V1 hV1=>?_
  simp! only [eV]
  refine ⟨⟨hm0,hm1⟩,2,by decide,?_⟩
  simp only [bX,List.set_cons_succ,List.set_cons_zero]
  subst hV1
  simp! only [bS]
  exact ⟨hm0,aU (q _ a' _ _ (Int.emod_nonneg _ (by omega)) (Int.emod_lt_of_pos _ hm0) h1 h2)⟩
 refine bD fun A B hA hB=>?_
 have hb:B (mup M t (.lst (cS ns a b c))):=by
  subst hB
  exact tail a b c none none none none (by omega) (by omega)
 simp! only [cS]
 refine fS (fun hc=>?_) (fun _=>hb)
 subst hA
 refine aE fun V1 hV1=>?_
 simp! only [bA,hName]
 subst hV1
 refine aE fun V1 hV1=>?_
 simp! only [eV]
 refine ⟨1,by decide,?_⟩
 simp only [bX,List.set_cons_succ,List.set_cons_zero]
 subst hV1
 refine aE fun V1 hV1=>?_
 simp! only [bA,hName]
 subst hV1
 refine aE fun V1 hV1=>?_
 have go:∀ cell:Int,V1 [some (.ref t),some (.int m),some (.int a),some (.int cell),none,none] (mup M t (.lst [.lst (ns.map .int),.int (a + 1),.int b,.int c])):=by
  intro cell
  subst hV1
  refine aE fun V2 hV2=>?_
  refine bD fun A2 B2 hA2 hB2=>?_
  have hA2':A2 (mup M t (.lst [.lst (ns.map .int),.int (a + 1),.int b,.int c])):=by
   subst hA2
   refine aE fun V3 hV3=>?_
   simp! only [bA,hName]
   refine ⟨mulL (by omega) (by omega),by decide,mulL (by decide) (by decide),?_⟩
   subst hV3
   refine aE fun V3 hV3=>?_
   simp! only [bA,hName]
   have i0:=Int.emod_nonneg cell (show (999983:Int)≠0 by decide)
   have i1:=Int.emod_lt_of_pos cell (show (0:Int) < 999983 by decide)
   refine ⟨by decide,mulL (by omega) (by omega),by decide,?_⟩
   subst hV3
   simp! only [bS]
   generalize hx:(cell % 999983 + 3) * (a * a % 10007 + 61 * a + 7) % 1000003=x
   have x0:0<=x:=by rw [<- hx];exact Int.emod_nonneg _ (by decide)
   have x1:x < 1000003:=by rw [<- hx];exact Int.emod_lt_of_pos _ (by decide)
   refine ⟨mulL (by omega) (by omega),by decide,⟨by decide,by decide⟩,mulL (by decide) (by decide),by decide,hm0,aU (q _ (a + 1) _ _ (Int.emod_nonneg _ (by omega)) (Int.emod_lt_of_pos _ hm0) (by omega) (by omega))⟩
  have hB2':B2 (mup M t (.lst [.lst (ns.map .int),.int (a + 1),.int b,.int c])):=by
   subst hB2
   simp only [bF]
   subst hV2
   refine aE fun V3 hV3=>?_
   simp! only [eV]
   refine ⟨pw,2,by decide,?_⟩
   simp only [bX,List.set_cons_succ,List.set_cons_zero]
   subst hV3
   simp! only [eV]
   refine ⟨3,by decide,?_⟩
   simp only [bX,List.set_cons_succ,List.set_cons_zero]
   exact tail (a + 1) _ _ _ _ _ _ (by omega) (by omega)
  simp! only [List.length_map]
  exact fS (fun _=>hA2') (fun _=>⟨pw,fS (fun _=>hA2') (fun _=>hB2')⟩)
 simp! only [lX,List.length_map]
 refine fS (fun hl=>?_) (fun _=>?_)
 ·have hl':0 < (ns.length:Int):=by simpa using hl
  obtain ⟨cell,hcell⟩:=zY ns (a % (ns.length:Int)) (Int.emod_nonneg _ (by omega)) (Int.emod_lt_of_pos _ hl')
  have hc2:eL (ns.map U.int) (a % (ns.length:Int))=some (.int cell):=by
   have e:(((a % (ns.length:Int)).toNat:Nat):Int)=a % (ns.length:Int):=Int.toNat_of_nonneg (Int.emod_nonneg _ (by omega))
   have h3:=Int.emod_lt_of_pos a hl'
   have a1:=MQ ns (a % (ns.length:Int)).toNat (by omega)
   rw [e] at a1
   have b1:=iE (xs:=ns) (j:=(a % (ns.length:Int)).toNat) (v:=ns[(a % (ns.length:Int)).toNat]'(by omega)) (by simp)
   rw [e,hcell] at b1
   rw [a1,Option.some.inj b1]
  simp! only [bA,hName,List.length_map,hc2]
  exact ⟨hl',go cell⟩
 ·simp! only [bF]
  exact go 0
theorem some_at (w:Int) (h0:0<=w) (h1:w < 11):∃ n:Int,eL [U.int 0,U.int 1,U.int 2,U.int 5,U.int 9,U.int 10,U.int 99,U.int 256,U.int (10 ^ Int.toNat 9),U.int (10 ^ Int.toNat 18 - 1),U.int (10 ^ Int.toNat 18)] w=some (.int n)/\0<=n/\n<=10 ^ 18:=by
 have e:w=0\/w=1\/w=2\/w=3\/w=4\/w=5\/w=6\/w=7\/w=8\/w=9\/w=10:=by omega
 rcases e with rfl | rfl | rfl | rfl | rfl | rfl | rfl | rfl | rfl | rfl | rfl <;> exact ⟨_,rfl,by decide +kernel,by decide +kernel⟩
def oP:dC:=fun us M Q=>∃ (t:Addr) (ns:List Int) (a b c:Int),us=[.ref t]/\M t=some (.lst (cS ns a b c))/\0<=a/\a<=900000/\∀ n a' b' c':Int,0<=n->n<=10 ^ 18->a<=a'->a'<=a + 2->Q (.int n) (mup M t (.lst (cS ns a' b' c')))
theorem GU (F:cZ K "_law_number" "_law_number" oX f fd) (hm:mg "_law_number"=some (.ref f)) (aX:Callee P w K mg base 1 "_law_draw" kY []):Callee P w K mg base 2 "_law_number" oP []:=by
 refine bT F hm nM (u4 fun _ _ _ _ _ _ _=>rfl) (aD (aR 1 nM.nd (cR (own:=false) (aA aI (aA aI (aA aI (aA aI (aA aI (aA aI (aA aI (aA aI (aA (oT aI aI) (aA (iT (oT aI aI) aI) (aA (oT aI aI) aB)))))))))))))
 (aD (aR 2 nM.nd (aM aX (aA (uv 0) (aA aI aB))))
 (aD (bR (bU t4 (uv 2) aI)
 (aG (aW (aQ (uv 1) (uv 2))))
 bC)
 (aD (bR (bU eK (uv 2) aI)
 (aG (aW (aM aX (aA (uv 0) (aA (cX (own:=false) (oT aI aI) aI) aB)))))
 bC)
 (aG (aW (aM aX (aA (uv 0) (aA aI aB))))))))) ?_
 rintro us M Q ⟨t,ns,a,b,c,rfl,hM,ha0,ha1,q⟩
 refine ⟨rfl,?_⟩
 have pw:AN 10 18:=⟨by decide,by decide,by decide⟩
 have pw9:AN 10 9:=⟨by decide,by decide,by decide⟩
 refine aE fun V hV=>?_
 simp! only [bA,hName]
 refine ⟨pw9,pw,pw,?_⟩
 subst hV
 refine aE fun V hV=>?_
 simp! only [bA,hName]
 refine ⟨t,ns,a,b,c,16,rfl,by decide,by decide,hM,ha0,by omega,fun w a1 b1 c1 w0 w1 l1 l2=>?_⟩
 subst hV
 refine aE fun V hV=>?_
 refine bD fun A B hA hB=>?_
 simp! only [true_and]
 refine fS (fun h=>?_) (fun _=>?_)
 ·have hw:w < 11:=by simpa using h
  obtain ⟨n,hn,n0,n1⟩:=some_at w w0 hw
  subst hA
  simp! only [bS,hn]
  exact aU (q n a1 b1 c1 n0 n1 l1 (by omega))
 ·subst hB
  simp only [bF]
  subst hV
  refine aE fun V hV=>?_
  refine bD fun A B hA hB=>?_
  simp! only [true_and]
  refine fS (fun h=>?_) (fun _=>?_)
  ·subst hA
   simp! only [bS]
   refine ⟨pw,t,ns,a1,b1,c1,_,rfl,by decide,by decide,aH,by omega,by omega,fun n a2 b2 c2 n0 n1 l3 l4=>?_⟩
   rw [bX]
   exact aU (q n a2 b2 c2 n0 (by have e:(10:Int) ^ Int.toNat 18=10 ^ 18:=rfl;omega) (by omega) (by omega))
  ·subst hB
   simp only [bF]
   subst hV
   simp! only [bS]
   refine ⟨t,ns,a1,b1,c1,13,rfl,by decide,by decide,aH,by omega,by omega,fun n a2 b2 c2 n0 n1 l3 l4=>?_⟩
   rw [bX]
   exact aU (q n a2 b2 c2 n0 (by omega) (by omega) (by omega))
def st2 (M:aF) (t r:Addr) (T R:List U):aF:=mup (mup M t (.lst T)) r (.lst R)
theorem eC {M:aF} {t r:Addr} {T R:List U} (h:t≠r):st2 M t r T R t=some (.lst T):=by unfold st2;rw [aO h,aH]
theorem iQ {M:aF} {t r:Addr} {T R:List U}:st2 M t r T R r=some (.lst R):=aH
theorem dH {M:aF} {t r:Addr} {T R T':List U} (h:t≠r):mup (st2 M t r T R) t (.lst T')=st2 M t r T' R:=by
 funext x
 unfold st2
 by_cases e1:x=t
 ·subst e1;rw [aH,aO h,aH]
 ·rw [aO e1]
  by_cases e2:x=r
  ·subst e2;rw [aH,aH]
  ·rw [aO e2,aO e2,aO e1,aO e1]
theorem mJ {M:aF} {t r:Addr} {T R R':List U}:mup (st2 M t r T R) r (.lst R')=st2 M t r T R':=by unfold st2;rw [bX]
theorem Cs {M:aF} {t r:Addr} {T R:List U} (h1:M t=some (.lst T)) (h2:M r=some (.lst R)):st2 M t r T R=M:=by unfold st2;rw [mD h1,mD h2]
theorem oK {M:aF} {t r:Addr} {T R T' R':List U} (h:t≠r):st2 (st2 M t r T R) t r T' R'=st2 M t r T' R':=by
 show mup (mup (st2 M t r T R) t (.lst T')) r (.lst R')=_
 rw [dH h,mJ]
def vI (x y:Int):List U:=[.int x,.int y]
def Pt.okC (cs:List Str):Pt->Prop
 | .hole s=>PyData.strOk s=true/\s∈cs
 | .any=>True
 | .fr lo hi=>0<=lo/\lo<=hi
 | .turn p=>p.okC cs
 | .two _ a b=>a.okC cs/\b.okC cs
theorem yU {cs:List Str}:∀ p:Pt,p.okC cs->p.ok
 | .hole _,h=>h.1
 | .any,_=>trivial
 | .fr _ _,h=>h
 | .turn a,h=>yU a h
 | .two _ a b,h=>⟨yU a h.1,yU b h.2⟩
theorem Pt.okC.ok {cs:List Str} {p:Pt} (h:p.okC cs):p.ok:=yU p h
def yP (n:Nat):dC:=fun us M Q=>∃ (t r:Addr) (ns:List Int) (a b c x y:Int) (cs:List Str),us=[.ref t,dM cs,.int (n:Int),.ref r]/\1<=n/\n<=4/\t≠r/\M t=some (.lst (cS ns a b c))/\M r=some (.lst (vI x y))/\cs≠[]/\cs.length<=6/\(∀ s∈cs,PyData.strOk s=true)/\0<=a/\a + 1000 * (n:Int)<=510000 /\
 ∀ (p:Pt) (a' b' c' x' y':Int),p.okC cs->p.dep<=n->a<=a'->a'<=a + (10 * 2 ^ n - 2)->Q p.toU (st2 M t r (cS ns a' b' c') (vI x' y'))
theorem B3 {ss:List Str} {i:Int} {s:Str} (hat:eL ss i=some s):eL (ss.map U.str) i=some (.str s):=by
 unfold eL at hat ⊢
 rw [List.length_map]
 cases e:vD ss.length i with
 | none=>rw [e] at hat;cases hat
 | some j =>
  rw [e] at hat
  have hat':ss[j]?=some s:=hat
  show (ss.map U.str)[j]?=_
  rw [List.getElem?_map,hat'];rfl
def sgn (w:Int):Op:=if w=5 then .less else if w=6 then .by_ else .sum
theorem Pm (w:Int) (h0:4<=w) (h1:w < 8):eL [U.str (Str.ofString "sum"),U.str (Str.ofString "less"),U.str (Str.ofString "by"),U.str (Str.ofString "sum")] (w - 4)=some (.str (sgn w).word):=by
 have e:w=4\/w=5\/w=6\/w=7:=by omega
 rcases e with rfl | rfl | rfl | rfl <;> rfl
theorem E5 {a b:Int} {l:List Int} (h:l.Perm [a,b]) (hs:l.Pairwise (·<=·)):∃ lo hi,l=[lo,hi]/\lo<=hi/\(lo=a\/lo=b):=by
 have hl:l.length=2:=h.length_eq
 match l,hl with
 | [lo,hi],_ =>
  refine ⟨lo,hi,rfl,?_,?_⟩
  ·have:=List.pairwise_cons.mp hs
   exact this.1 hi (by simp)
  ·have:=h.mem_iff.mp (show lo∈[lo,hi] by simp)
   simpa using this
theorem Pq {n:Nat} (F:cZ K "_law_pattern" "_law_pattern" lD f fd) (hm:mg "_law_pattern"=some (.ref f)) (bZ:mg "len"=none) (mL:mg "sorted"=none) (aX:Callee P w K mg base 1 "_law_draw" kY []) (dU:Callee P w K mg base 2 "_law_number" oP []) (lC:Callee P w K mg base (n + 2) "_law_pattern" (yP n) []):Callee P w K mg base (n + 3) "_law_pattern" (yP (n + 1)) []:=by
 refine bT F hm i5 (Le fun _ _ _ _ _ _ _ _ _ _=>rfl) (aD (lN (iT (aQ (uv 3) aI) aI) (uv 3) aI)
 (aD (aR 4 i5.nd (aM aX (aA (uv 0) (aA aI aB))))
 (aD (bR (kS.pt (l0 (bU eK (uv 2) aI) (l0 (bU t4 (aQ (uv 3) aI) aI) (nD (bU t4 (uv 4) aI)))))
 (aD (bR (kS.pt (rO (bU AD (aQ (uv 3) aI) aI) (oH (bU AD (aM aX (aA (uv 0) (aA aI aB))) aI))))
 (aD (lN (iT (aQ (uv 3) aI) aI) (uv 3) aI)
 (aG (aW (bG (aA cM (aA (aQ (uv 1) (aM aX (aA (uv 0) (aA (fM i9 bZ (aA (uv 1) aB)) aB)))) aB))))))
 bC)
 (aD (bR (bU eK (aM aX (aA (uv 0) (aA aI aB))) aI)
 (aG (aW (bG (aA cM aB))))
 bC)
 (aD (aR 5 i5.nd (fM J2 mL (aA (cR (own:=false) (aA (aM dU (aA (uv 0) aB)) (aA (aM dU (aA (uv 0) aB)) aB))) aB)))
 (aG (aW (bG (aA cM (aA (aQ (uv 5) aI) (aA (aQ (uv 5) aI) aB)))))))))
 bC)
 (aD (aR 6 i5.nd (aM lC (aA (uv 0) (aA (uv 1) (aA (iT (uv 2) aI) (aA (uv 3) aB))))))
 (aD (bR (bU eK (uv 4) aI)
 (aG (aW (bG (aA cM (aA (uv 6) aB)))))
 bC)
 (aD (aR 7 i5.nd (aQ (cR (own:=false) (aA cM (aA cM (aA cM (aA cM aB))))) (iT (uv 4) aI)))
 (aG (aW (bG (aA (uv 7) (aA (uv 6) (aA (aM lC (aA (uv 0) (aA (uv 1) (aA (iT (uv 2) aI) (aA (uv 3) aB))))) aB)))))))))))) ?_
 rintro us M Q ⟨t,r,ns,a,b,c,x,y,cs,rfl,hn1,hn4,htr,hMt,hMr,hne,hc6,hcs,ha0,ha1,q⟩
 refine ⟨rfl,?_⟩
 have hrt:r≠t:=fun z=>htr z.symm
 have e2:(2:Int) ^ (n + 1)=2 * 2 ^ n:=by rw [Int.pow_succ];omega
 have p1:(1:Int)<=2 ^ n:=by have:=Int.pow_pos (n:=2) (m:=n) (by decide);omega
 have p4:(2:Int) ^ n<=8:=by
  have h:n=0\/n=1\/n=2\/n=3:=by omega
  rcases h with rfl | rfl | rfl | rfl <;> decide
 have hln:0 < (cs.length:Int):=by have:=List.length_pos_iff.mpr hne;omega
 have hMM:=Cs hMt hMr
 rw [<- hMM]
 have vt:∀ T R,view (st2 M t r T R) (.ref t)=.lst T:=fun T R=>jE (eC htr)
 have vr:∀ T R,view (st2 M t r T R) (.ref r)=.lst R:=fun T R=>jE iQ
 refine aE fun V hV=>?_
 simp! only [eV,vr,vI]
 simp only [iQ]
 refine ⟨0,rfl,?_⟩
 simp only [mJ,List.set_cons_zero]
 subst hV
 refine aE fun V hV=>?_
 simp! only [bA,hName]
 refine ⟨t,ns,a,b,c,8,rfl,by decide,by decide,eC htr,ha0,by omega,fun way a1 b1 c1 w0 w1 l1 l2=>?_⟩
 rw [dH htr]
 subst hV
 refine aE fun V hV=>?_
 refine bD fun A B hA hB=>?_
 have leaf:A (st2 M t r (cS ns a1 b1 c1) [.int (x - 1),.int y]):=by
  subst hA
  refine aE fun V1 hV1=>?_
  refine bD fun A1 B1 hA1 hB1=>?_
  have nohole:∀ a2 b2 c2:Int,a1<=a2->a2<=a1 + 1->B1 (st2 M t r (cS ns a2 b2 c2) [.int (x - 1),.int y]):=by
   intro a2 b2 c2 g1 g2
   subst hB1
   simp only [bF]
   subst hV1
   refine aE fun V2 hV2=>?_
   refine bD fun A2 B2 hA2 hB2=>?_
   simp! only [true_and]
   refine ⟨t,ns,a2,b2,c2,3,rfl,by decide,by decide,eC htr,by omega,by omega,fun k a3 b3 c3 k0 k1 g3 g4=>?_⟩
   rw [dH htr]
   simp! only [true_and]
   refine fS (fun _=>?_) (fun _=>?_)
   ·subst hA2
    simp! only [bS]
    exact aU (q .any a3 b3 c3 (x - 1) y trivial (by simp [Pt.dep]) (by omega) (by omega))
   ·subst hB2
    simp only [bF]
    subst hV2
    refine aE fun V3 hV3=>?_
    simp! only [bA,hName]
    refine ⟨t,ns,a3,b3,c3,rfl,eC htr,by omega,by omega,fun n1 a4 b4 c4 f0 f1 g5 g6=>?_⟩
    rw [dH htr]
    refine ⟨t,ns,a4,b4,c4,rfl,eC htr,by omega,by omega,fun n2 a5 b5 c5 f2 f3 g7 g8=>?_⟩
    rw [dH htr]
    simp! only [true_and]
    refine ⟨[n1,n2],rfl,by simp,fun l hp hs=>?_⟩
    obtain ⟨lo,hi,rfl,hlh,hlo⟩:=E5 hp hs
    simp only [jQ,List.map_cons,List.map_nil]
    subst hV3
    simp! only [bS]
    exact aU (q (.fr lo hi) a5 b5 c5 (x - 1) y ⟨by rcases hlo with rfl | rfl <;> omega,hlh⟩ (by simp [Pt.dep]) (by omega) (by omega))
  simp! only [vr]
  refine fS (fun _=>?_) (fun _=>nohole a1 b1 c1 (by omega) (by omega))
  refine ⟨t,ns,a1,b1,c1,4,rfl,by decide,by decide,eC htr,by omega,by omega,fun k a2 b2 c2 k0 k1 g1 g2=>?_⟩
  rw [dH htr]
  simp! only [true_and]
  refine fS (fun _=>?_) (fun _=>nohole a2 b2 c2 (by omega) (by omega))
  subst hA1
  refine aE fun V2 hV2=>?_
  simp! only [eV,vr]
  simp only [iQ]
  refine ⟨1,rfl,?_⟩
  simp only [mJ,List.set_cons_succ,List.set_cons_zero]
  subst hV2
  simp! only [bS,dM,List.length_map]
  refine ⟨t,ns,a2,b2,c2,(cs.length:Int),rfl,hln,by omega,eC htr,by omega,by omega,fun k a3 b3 c3 k0 k1 g3 g4=>?_⟩
  rw [dH htr]
  obtain ⟨s,hat⟩:=zY cs k k0 k1
  have hat':=B3 hat
  simp! only [hat']
  exact aU (q (.hole s) a3 b3 c3 (x - 1) (y - 1) ⟨hcs s (rR hat),rR hat⟩ (by simp [Pt.dep]) (by omega) (by omega))
 simp! only [vr]
 refine fS (fun _=>leaf) (fun hn=>fS (fun _=>leaf) (fun _=>fS (fun _=>leaf) (fun hw=>?_)))
 have hn':1<=n:=by
  have:¬ ((n + 1:Nat):Int)=1:=by simpa using hn
  omega
 have hw3:3<=way:=by
  have:¬ way < 3:=by simpa using hw
  omega
 have en:((n + 1:Nat):Int) - 1=(n:Int):=by omega
 subst hB
 simp only [bF]
 subst hV
 refine aE fun V hV=>?_
 simp! only [bA,hName,en]
 refine ⟨t,r,ns,a1,b1,c1,x - 1,y,cs,rfl,hn',by omega,htr,eC htr,iQ,hne,hc6,hcs,by omega,by omega,fun p1' a2 b2 c2 x2 y2 po1 pd1 g1 g2=>?_⟩
 rw [oK htr]
 have pt1:(Pt.turn p1').dep<=n + 1:=by simp only [Pt.dep];omega
 subst hV
 refine aE fun V hV=>?_
 refine bD fun A B hA hB=>?_
 simp! only [true_and]
 refine fS (fun _=>?_) (fun h3=>?_)
 ·subst hA
  simp! only [bS]
  exact aU (q (.turn p1') a2 b2 c2 x2 y2 po1 pt1 (by omega) (by omega))
 ·have hw4:4<=way:=by
   have:¬ way=3:=by simpa using h3
   omega
  have hsg:=Pm way hw4 w1
  subst hB
  simp only [bF]
  subst hV
  refine aE fun V hV=>?_
  simp! only [bA,hName,hsg]
  subst hV
  simp! only [bS,en]
  refine ⟨t,r,ns,a2,b2,c2,x2,y2,cs,rfl,hn',by omega,htr,eC htr,iQ,hne,hc6,hcs,by omega,by omega,fun p2' a3 b3 c3 x3 y3 po2 pd2 g3 g4=>?_⟩
  rw [oK htr]
  try simp! only [true_and]
  exact aU (q (.two (sgn way) p1' p2') a3 b3 c3 x3 y3 ⟨po1,po2⟩ (by simp only [Pt.dep];omega) (by omega) (by omega))
theorem Eb (F:cZ K "_law_pattern" "_law_pattern" lD f fd) (hm:mg "_law_pattern"=some (.ref f)) (bZ:mg "len"=none) (mL:mg "sorted"=none) (aX:Callee P w K mg base 1 "_law_draw" kY []) (dU:Callee P w K mg base 2 "_law_number" oP []):∀ n,Callee P w K mg base (n + 2) "_law_pattern" (yP n) []
 | 0=>by
  have no:∀ us M Q,¬ yP 0 us M Q:=fun us M Q h=>by
   obtain ⟨_,_,_,_,_,_,_,_,_,_,h,_⟩:=h
   omega
  refine ⟨f,fd,["tape","classes","left","room"],[],[],⟨fun vs H Q E h=>?_,fun A outer s H args us vs Q E _ _ _ _ h=>?_⟩,hm,F.kp,F.binds (Le fun _ _ _ _ _ _ _ _ _ _=>rfl),.nil,fun H M=>.nil⟩
  ·obtain ⟨us,M,Q',_,_,h,_⟩:=h;exact absurd h (no us M Q')
  ·obtain ⟨us,M,Q',_,_,h,_⟩:=h;exact absurd h (no us M Q')
 | n + 1=>Pq F hm bZ mL aX dU (Eb F hm bZ mL aX dU n)
theorem IT {pt:Pt} {s:Str} {M:aF} {Q:UK} (h:pt.ok) (hd:pt.dep<=60) (hs:PyData.strOk s=true) (q:∀ b,Q (.bl b) M):sX false pt.toU (.tup [.str (Str.ofString "at"),.str s]) M Q:=by
 obtain ⟨z,r,e,_⟩:=Bb pt
 have e1:toD pt.toU=some (i7 pt):=zD pt
 have h1:nN M pt.toU=some (i7 pt):=by rw [<- e1,e];rfl
 have h2:nN M (.tup [.str (Str.ofString "at"),.str s])=some (i7 (.hole s)):=by rw [<- zD (.hole s)];rfl
 have h3:(i7 (.hole s)).depth<=2:=by simp [i7,PyData.depth,PyData.depthAll]
 have h4:Cp false pt.toU (.tup [.str (Str.ofString "at"),.str s]) M Q:=⟨_,_,h1,h2,Cz pt h,Cz (.hole s) hs,by omega,q _⟩
 rw [e] at h4 ⊢
 exact h4
structure Tk where
 cls:Str
 pt:Pt
 cost:Int
def Tk.toU (k:Tk):U:=.tup [.str k.cls,k.pt.toU,.int k.cost]
def Tk.good (cs:List Str) (k:Tk):Prop:=k.pt.ok/\k.pt.dep<=4/\k.cls∈cs/\0<=k.cost/\k.cost<=1000
def Tk.goodC (cs:List Str) (k:Tk):Prop:=k.good cs/\k.pt.okC cs
structure A3 (cs:List Str):Prop where
 ne:cs≠[]
 len:cs.length<=6
 ok:∀ s∈cs,PyData.strOk s=true
 nd:cs.Nodup
theorem J1 (x y w:Int) (x0:0<=x) (x1:x < 8) (y0:0<=y) (y1:y < 8) (h0:0<=w) (h1:w < 4):∃ n,eL [U.int x,U.int y,U.int 0,U.int 1000] w=some (.int n)/\0<=n/\n<=1000:=by
 have e:w=0\/w=1\/w=2\/w=3:=by omega
 rcases e with rfl | rfl | rfl | rfl <;> exact ⟨_,rfl,by omega,by omega⟩
def G4:dC:=fun us M Q=>∃ (t:Addr) (ns:List Int) (a b c:Int) (cs:List Str),us=[.ref t,dM cs]/\M t=some (.lst (cS ns a b c))/\A3 cs/\0<=a/\a<=400000/\∀ (k:Tk) (a' b' c':Int),k.goodC cs->a<=a'->a'<=a + 200->Q k.toU (mup M t (.lst (cS ns a' b' c')))
theorem L9 (F:cZ K "_law_tile" "_law_tile" tR f fd) (hm:mg "_law_tile"=some (.ref f)) (bZ:mg "len"=none) (aX:Callee P w K mg base 1 "_law_draw" kY []) (lC:Callee P w K mg base 6 "_law_pattern" (yP 4) []):Callee P w K mg base 7 "_law_tile" G4 []:=by
 refine bT F hm k8 (uQ fun _ _ _ _ _ _ _ _=>rfl) (aD (aR 2 k8.nd (aQ (uv 1) (aM aX (aA (uv 0) (aA (fM i9 bZ (aA (uv 1) aB)) aB)))))
 (aD (aR 3 k8.nd (aM lC (aA (uv 0) (aA (uv 1) (aA aI (aA (cR (own:=true) (aA aI (aA aI aB))) aB))))))
 (aD (bR (bU eK (uv 3) (bG (aA cM (aA (uv 2) aB))))
 (aG (aR 3 k8.nd (bG (aA cM aB))))
 bC)
 (aD (aR 4 k8.nd (aQ (cR (own:=false) (aA (aM aX (aA (uv 0) (aA aI aB))) (aA (aM aX (aA (uv 0) (aA aI aB))) (aA aI (aA aI aB))))) (aM aX (aA (uv 0) (aA aI aB)))))
 (aG (aW (bG (aA (uv 2) (aA (uv 3) (aA (uv 4) aB)))))))))) ?_
 rintro us M Q ⟨t,ns,a,b,c,cs,rfl,hM,hC,ha0,ha1,q⟩
 refine ⟨rfl,?_⟩
 have hln:0 < (cs.length:Int):=by have:=List.length_pos_iff.mpr hC.ne;omega
 have hc6:=hC.len
 refine aE fun V hV=>?_
 simp! only [bA,hName,dM,List.length_map]
 refine ⟨t,ns,a,b,c,(cs.length:Int),rfl,hln,by omega,hM,ha0,by omega,fun k a1 b1 c1 k0 k1 g1 g2=>?_⟩
 obtain ⟨s,hat⟩:=zY cs k k0 k1
 have hat':=B3 hat
 have hs:=hC.ok s (rR hat)
 simp! only [hat']
 subst hV
 refine aE fun V hV=>?_
 simp! only [bA,hName]
 intro r hr
 have htr:t≠r:=fun z=>by subst z;rw [aH] at hr;cases hr
 have hMr:M r=none:=by rw [aO (fun z=>htr z.symm)] at hr;exact hr
 refine ⟨t,r,ns,a1,b1,c1,9,4,cs,rfl,by decide,by decide,htr,by rw [aO htr,aH],aH,hC.ne,hc6,hC.ok,by omega,by omega,fun p a2 b2 c2 x2 y2 po pd g3 g4=>?_⟩
 have hst:st2 (mup (mup M t (.lst (cS ns a1 b1 c1))) r (.lst [.int 9,.int 4])) t r (cS ns a2 b2 c2) (vI x2 y2)=st2 M t r (cS ns a2 b2 c2) (vI x2 y2):=oK htr
 rw [hst]
 subst hV
 refine aE fun V hV=>?_
 have go:∀ pt:Pt,pt.okC cs->pt.dep<=4->V [some (.ref t),some (dM cs),some (.str s),some pt.toU,none] (st2 M t r (cS ns a2 b2 c2) (vI x2 y2)):=by
  intro pt po pd
  subst hV
  refine aE fun V1 hV1=>?_
  simp! only [bA,hName]
  refine ⟨t,ns,a2,b2,c2,8,rfl,by decide,by decide,eC htr,by omega,by omega,fun d1 a3 b3 c3 x0 x1 g5 g6=>?_⟩
  rw [dH htr]
  refine ⟨t,ns,a3,b3,c3,8,rfl,by decide,by decide,eC htr,by omega,by omega,fun d2 a4 b4 c4 y0 y1 g7 g8=>?_⟩
  rw [dH htr]
  simp! only [true_and]
  refine ⟨t,ns,a4,b4,c4,4,rfl,by decide,by decide,eC htr,by omega,by omega,fun d3 a5 b5 c5 k0 k1 g9 g10=>?_⟩
  rw [dH htr]
  obtain ⟨co,hco,co0,co1⟩:=J1 d1 d2 d3 x0 x1 y0 y1 k0 k1
  simp! only [hco]
  subst hV1
  simp! only [bS]
  refine ⟨_,mup M t (.lst (cS ns a5 b5 c5)),fun z o hz=>?_,.inl rfl,q ⟨s,pt,co⟩ a5 b5 c5 ⟨⟨po.ok,pd,rR hat,co0,co1⟩,po⟩ (by omega) (by omega)⟩
  have hzr:z≠r:=fun e=>by subst e;rw [aO (fun e=>htr e.symm),hMr] at hz;cases hz
  show mup (mup M t _) r _ z=_
  rw [aO hzr];exact hz
 refine bD fun A B hA hB=>?_
 simp! only [true_and]
 refine IT po.ok (by omega) hs fun bb=>?_
 cases bb with
 | true =>
  subst hA
  simp! only [bA,hName]
  exact go .any trivial (by simp [Pt.dep])
 | false =>
  subst hB
  simp only [bF,Bool.false_eq_true,if_false]
  exact go p po pd
def u0 (s:Str):List Pt:=[.any,.fr 0 (10 ^ Int.toNat 18),.two .sum (.hole s) (.hole s),.two .less (.hole s) (.hole s),.two .by_ (.hole s) (.hole s),.turn (.hole s)]
def EM:dC:=fun us M Q=>∃ (t:Addr) (ns:List Int) (a b c:Int) (cs:List Str),us=[.ref t,dM cs]/\M t=some (.lst (cS ns a b c))/\A3 cs/\0<=a/\a<=400000/\∀ (ks:List Tk) (a' b' c':Int),(∀ k∈ks,k.goodC cs)->ks.length<=6->a<=a'->a'<=a + 200->Q (.lst (ks.map Tk.toU)) (mup M t (.lst (cS ns a' b' c')))
theorem Hx {s:Str} {cs:List Str} (h:PyData.strOk s=true/\s∈cs):∀ p∈u0 s,p.okC cs/\p.dep<=4:=by
 intro p hp
 simp only [u0,List.mem_cons,List.not_mem_nil,or_false] at hp
 rcases hp with rfl | rfl | rfl | rfl | rfl | rfl
 ·exact ⟨trivial,by simp [Pt.dep]⟩
 ·exact ⟨⟨by decide +kernel,by decide +kernel⟩,by simp [Pt.dep]⟩
 ·exact ⟨⟨h,h⟩,by simp [Pt.dep]⟩
 ·exact ⟨⟨h,h⟩,by simp [Pt.dep]⟩
 ·exact ⟨⟨h,h⟩,by simp [Pt.dep]⟩
 ·exact ⟨h,by simp [Pt.dep]⟩
theorem Jo (F:cZ K "_law_plain" "_law_plain" qX f fd) (hm:mg "_law_plain"=some (.ref f)) (aX:Callee P w K mg base 1 "_law_draw" kY []):Callee P w K mg base 2 "_law_plain" EM []:=by
 refine bT F hm hJ (uQ fun _ _ _ _ _ _ _ _=>rfl) (aD (aR 2 hJ.nd (aQ (uv 1) aI))
 (aD (aR 3 hJ.nd (bG (aA cM (aA (uv 2) aB))))
 (aD (aR 4 hJ.nd (cR (own:=false) (aA (bG (aA cM aB)) (aA (bG (aA cM (aA aI (aA (oT aI aI) aB)))) (aA (bG (aA cM (aA (uv 3) (aA (uv 3) aB)))) aB)))))
 (aD (aR 4 hJ.nd (cX (own:=false) (uv 4) (cR (own:=false) (aA (bG (aA cM (aA (uv 3) (aA (uv 3) aB)))) (aA (bG (aA cM (aA (uv 3) (aA (uv 3) aB)))) (aA (bG (aA cM (aA (uv 3) aB))) aB))))))
 (aD (aR 5 hJ.nd (cR (own:=true) aB))
 (aD (eB (eX (uv 4)) (aZ (k:=1000) 6 hJ.nd)
 (aG (bR (bU AD (aM aX (aA (uv 0) (aA aI aB))) aI)
 (aG (lQ (p8 (uv 5) (aA (bG (aA (uv 2) (aA (uv 6) (aA (aM aX (aA (uv 0) (aA aI aB))) aB)))) aB))))
 bC)))
 (aG (aW (uv 5))))))))) ?_
 rintro us M Q ⟨t,ns,a,b,c,cs,rfl,hM,hC,ha0,ha1,q⟩
 refine ⟨rfl,?_⟩
 have pw:AN 10 18:=⟨by decide,by decide,by decide⟩
 obtain ⟨s,cr,rfl⟩:∃ s cr,cs=s :: cr:=by
  cases cs with
  | nil=>exact absurd rfl hC.ne
  | cons s cr=>exact ⟨s,cr,rfl⟩
 have hs:=hC.ok s List.mem_cons_self
 have hpo:=Hx (cs:=s :: cr) ⟨hs,List.mem_cons_self⟩
 rw [<- mD hM]
 refine aE fun V hV=>?_
 simp! only [bA,hName,dM]
 subst hV
 refine aE fun V hV=>?_
 simp! only [bA,hName]
 subst hV
 refine aE fun V hV=>?_
 simp! only [bA,hName]
 refine ⟨pw,?_⟩
 subst hV
 refine aE fun V hV=>?_
 simp! only [bA,hName]
 subst hV
 have e6:[U.tup [U.str (Str.ofString "any")],U.tup [U.str (Str.ofString "from"),U.int 0,U.int (10 ^ Int.toNat 18)],U.tup [U.str (Str.ofString "sum"),U.tup [U.str (Str.ofString "at"),U.str s],U.tup [U.str (Str.ofString "at"),U.str s]],U.tup [U.str (Str.ofString "less"),U.tup [U.str (Str.ofString "at"),U.str s],U.tup [U.str (Str.ofString "at"),U.str s]],U.tup [U.str (Str.ofString "by"),U.tup [U.str (Str.ofString "at"),U.str s],U.tup [U.str (Str.ofString "at"),U.str s]],U.tup [U.str (Str.ofString "turn"),U.tup [U.str (Str.ofString "at"),U.str s]]]=(u0 s).map Pt.toU:=rfl
 rw [e6]
 have hpl:(u0 s).length=6:=rfl
 generalize u0 s=ps at *
 refine aE fun V hV=>?_
 simp! only [bA,hName]
 intro r hr
 have htr:t≠r:=fun z=>by subst z;rw [aH] at hr;cases hr
 have hMr:M r=none:=by rw [aO (fun z=>htr z.symm)] at hr;exact hr
 subst hV
 refine aE fun V hV=>?_
 refine eS (S:=⟨none,ps.map Pt.toU⟩) (M1:=st2 M t r (cS ns a b c) []) (fun R r=>by simp! only [true_and];exact r)
  (fun i τ Mi=>∃ (ks:List Tk) (a' b' c':Int) (z2 z3 z6:Option U),τ=[some (.ref t),z2,some (.str s),z3,some (.lst (ps.map Pt.toU)),some (.ref r),z6]/\Mi=st2 M t r (cS ns a' b' c') (ks.map Tk.toU)/\(∀ k∈ks,k.goodC (s :: cr))/\ks.length<=i/\a<=a'/\a'<=a + 2 * i)
  ⟨[],a,b,c,_,_,none,rfl,rfl,(fun k h=>by cases h),by simp,by omega,by omega⟩ nk ?_ ?_
 ·rintro i x τ Mi e ⟨ks,a1,b1,c1,z2,z3,z6,rfl,rfl,hk,hkl,g1,g2⟩
  have hi:i < 6:=by
   have:=(List.getElem?_eq_some_iff.mp e).1
   simp at this;omega
  obtain ⟨p,hp,rfl⟩:=List.mem_map.mp (List.mem_of_getElem? e)
  simp! only [hName]
  generalize hPP:(fun (τ:SU) (Mi:aF)=>∃ (ks:List Tk) (a' b' c':Int) (z2 z3 z6:Option U),τ=[some (.ref t),z2,some (.str s),z3,some (.lst (ps.map Pt.toU)),some (.ref r),z6]/\Mi=st2 M t r (cS ns a' b' c') (ks.map Tk.toU)/\(∀ k∈ks,k.goodC (s :: cr))/\ks.length<=i + 1/\a<=a'/\a'<=a + 2 * ((i + 1:Nat):Int))=PP
  refine bD fun A B hA hB=>?_
  simp! only [true_and]
  refine ⟨t,ns,a1,b1,c1,6,rfl,by decide,by decide,eC htr,by omega,by omega,fun w a2 b2 c2 w0 w1 g3 g4=>?_⟩
  rw [dH htr]
  simp! only [true_and]
  refine fS (fun _=>?_) (fun _=>?_)
  ·subst hA
   simp! only [hZ]
   refine ⟨⟨_,jE iQ⟩,t,ns,a2,b2,c2,9,rfl,by decide,by decide,eC htr,by omega,by omega,fun d a3 b3 c3 d0 d1 g5 g6=>?_⟩
   rw [dH htr]
   simp! only [iQ,mJ]
   refine ⟨big (by rw [List.length_map];omega),?_⟩
   rw [<- hPP]
   refine ⟨ks++[⟨s,p,d⟩],a3,b3,c3,_,_,_,rfl,by simp [Tk.toU],fun k hk'=>?_,by simp;omega,by omega,by omega⟩
   rcases List.mem_append.mp hk' with hk' | hk'
   ·exact hk k hk'
   ·cases List.mem_singleton.mp hk';exact ⟨⟨(hpo p hp).1.ok,(hpo p hp).2,List.mem_cons_self,d0,by show d<=1000;omega⟩,(hpo p hp).1⟩
  ·subst hB
   simp only [bF]
   rw [<- hPP]
   exact ⟨ks,a2,b2,c2,_,_,_,rfl,rfl,hk,by omega,by omega,by omega⟩
 ·rintro τ Mi ⟨ks,a1,b1,c1,z2,z3,z6,rfl,rfl,hk,hkl,g1,g2⟩
  have hl6:(Src.mk none (ps.map Pt.toU)).xs.length=6:=by show (ps.map Pt.toU).length=6;rw [List.length_map,hpl]
  rw [hl6] at hkl g2
  subst hV
  simp! only [bS]
  refine ⟨_,mup M t (.lst (cS ns a1 b1 c1)),fun z o hz=>?_,.inr ⟨r,_,rfl,iQ,by rw [aO (fun e=>htr e.symm)];exact hMr,rfl⟩,q ks a1 b1 c1 hk hkl g1 (by omega)⟩
  have hzr:z≠r:=fun e=>by subst e;rw [aO (fun e=>htr e.symm),hMr] at hz;cases hz
  show mup (mup M t _) r _ z=_
  rw [aO hzr];exact hz
def hF (e:List Nat × Pt):Option (List Nat × Str):=match e.2 with
 | .hole c=>some (e.1,c)
 | _=>none
def cV (e:List Nat × Str):U:=.tup [aN e.1,.str e.2]
def gF (p:Pt):List (List Nat × Str):=(bN p []).filterMap hF
def hU:U->Option U
 | .tup [a,.tup (.str z :: r)]=>if decide (z=Str.ofString "at") then (r.head?).map fun c=>.tup [a,c] else none
 | _=>none
theorem Ig (e:List Nat × Pt):hU (gH e)=(hF e).map cV:=by
 obtain ⟨pl,q⟩:=e
 have e1:decide (Str.ofString "at"=Str.ofString "at")=true:=by simp
 cases q with
 | hole c=>simp only [gH,Pt.toU,hU,e1,hF,cV];rfl
 | any=>simp only [gH,Pt.toU,hU,kD,jW,j9,j8,j5,jZ,j7,hF];rfl
 | fr l h=>simp only [gH,Pt.toU,hU,kD,jW,j9,j8,j5,jZ,j7,hF];rfl
 | turn a=>simp only [gH,Pt.toU,hU,kD,jW,j9,j8,j5,jZ,j7,hF];rfl
 | two o a b=>simp only [gH,Pt.toU,hU,kD,jW,j9,j8,j5,jZ,j7,hF];rfl
theorem OJ (l:List (List Nat × Pt)):(l.map gH).filterMap hU=(l.filterMap hF).map cV:=by
 induction l with
 | nil=>rfl
 | cons e l ih =>
  rw [List.map_cons,List.filterMap_cons,List.filterMap_cons,Ig,ih]
  cases hF e <;> rfl
def D8:dC:=fun us M Q=>∃ p:Pt,us=[p.toU]/\p.dep<=6/\Q (.lst ((gF p).map cV)) M
theorem Kq (F:cZ K "holes" "holes" AA f fd) (hm:mg "holes"=some (.ref f)) (iJ:Callee P w K mg base 7 "places_of" (oV 6) []) (sH:Callee P w K mg base 2 "shape_at" zF []):Callee P w K mg base 8 "holes" D8 []:=by
 refine bT F hm B4 (u4 fun _ _ _ _ _ _ _=>rfl) (aD (vJ 1 B4.nd false ["place","pattern"] 1 [0] (eX (aM iJ (aA (uv 0) aB))) (aZ (k:=1) 0 (by dsimp only [b8];decide +kernel)) jH (bG (aA (uv 0) (aA (aM sH (aA (uv 1) (aA (uv 0) aB))) aB))))
 (aG (aW (mX false ["place","piece"] 2 [] (eX (uv 1)) (iH (n:=2) (bM (aZ (k:=2) 0 (by dsimp only [b8];decide +kernel)) (bM (aZ (k:=2) 1 (by dsimp only [b8];decide +kernel)) fK))) (NF (bU eK (aQ (uv 1) aI) cM)) (bG (aA (uv 0) (aA (aQ (uv 1) aI) aB))))))) ?_
 rintro us M Q ⟨p,rfl,hd,q⟩
 refine ⟨rfl,?_⟩
 have hsp:(bN p []).map (·.1)=p.places:=by rw [jL];simp
 have hpl:p.places.length<=64:=by
  have h1:=places_len p
  have h2:2 ^ p.dep<=2 ^ 6:=Nat.pow_le_pow_right (by decide) hd
  omega
 have hsl:(bN p []).length=p.places.length:=by rw [<- hsp,List.length_map]
 simp! only [gB,eT,iC,mS,lX,bF,bS,m9,bA,hName,hZ,lB,m6,eV,uB]
 refine dX (S:=⟨none,p.places.map aN⟩) (M1:=M) ((bN p []).map gH) (fun R r=>⟨p,rfl,hd,by decide,r⟩) (by simp [hsl]) (small (by show (p.places.map aN).length<=_;rw [List.length_map];omega)) (fun a e=>by cases e) ?_ ?_
 ·intro j x y hx hy M' _ R r'
  have hx':(p.places.map aN)[j]?=some x:=hx
  rw [<- hsp,List.map_map,List.getElem?_map] at hx'
  rw [List.getElem?_map] at hy
  cases hj:(bN p [])[j]? with
  | none=>rw [hj] at hy;cases hy
  | some e =>
   rw [hj] at hx' hy
   cases hx'
   cases hy
   obtain ⟨s,h1,h2⟩:=v7 p [] e (List.mem_of_getElem? hj)
   rw [List.nil_append] at h1
   simp! only [gB,eT,iC,mS,lX,bF,bS,m9,bA,hName,hZ,lB,m6,eV,uB]
   refine ⟨p.toU,e.2.toU,e.1,rfl,by rw [h1];exact h2,?_⟩
   simp! only [gB,eT,iC,mS,lX,bF,bS,m9,bA,hName,hZ,lB,m6,eV,uB]
   exact r'
 ·simp! only [gB,eT,iC,mS,lX,bF,bS,m9,bA,hName,hZ,lB,m6,eV,uB]
  refine Gp (S:=⟨none,(bN p []).map gH⟩) (M1:=M) hU (fun R r=>r) (small (by show ((bN p []).map gH).length<=_;rw [List.length_map];omega)) (fun a e=>by cases e) ?_ ?_
  ·intro x hx M' _ R r
   obtain ⟨e,he,rfl⟩:=List.mem_map.mp hx
   rw [Ig] at r
   obtain ⟨pl,pt⟩:=e
   cases pt with
   | hole c=>simp! only [gH,hF,cV,Pt.toU,kD,jW,j9,j8,j5,jZ,j7,Option.map_some,gB,eT,iC,mS,lX,bF,bS,m9,bA,hName,hZ,lB,m6,eV,uB] at r ⊢;exact r
   | any=>simp! only [gH,hF,cV,Pt.toU,kD,jW,j9,j8,j5,jZ,j7,Option.map_none,gB,eT,iC,mS,lX,bF,bS,m9,bA,hName,hZ,lB,m6,eV,uB] at r ⊢;exact r
   | fr l h=>simp! only [gH,hF,cV,Pt.toU,kD,jW,j9,j8,j5,jZ,j7,Option.map_none,gB,eT,iC,mS,lX,bF,bS,m9,bA,hName,hZ,lB,m6,eV,uB] at r ⊢;exact r
   | turn a=>simp! only [gH,hF,cV,Pt.toU,kD,jW,j9,j8,j5,jZ,j7,Option.map_none,gB,eT,iC,mS,lX,bF,bS,m9,bA,hName,hZ,lB,m6,eV,uB] at r ⊢;exact r
   | two o a b=>simp! only [gH,hF,cV,Pt.toU,kD,jW,j9,j8,j5,jZ,j7,Option.map_none,gB,eT,iC,mS,lX,bF,bS,m9,bA,hName,hZ,lB,m6,eV,uB] at r ⊢;exact r
  ·rw [show (Src.mk none ((bN p []).map gH)).xs=(bN p []).map gH from rfl,OJ]
   simp only [jQ]
   exact aU q
def j4:Pt->Tr->List (Tr × Str)
 | .hole c,t=>[(t,c)]
 | .turn p,.turn a=>j4 p a
 | .two _ p q,.two _ a b=>j4 p a++j4 q b
 | _,_=>[]
theorem rE:∀ (p:Pt) (t:Tr) (pre:List Nat),cJ p t=true->((bN p pre).filterMap hF).length=(j4 p t).length/\∀ (i:Nat) (e:List Nat × Str),((bN p pre).filterMap hF)[i]?=some e->∃ s t',e.1=pre++s/\jF t.toU s=some t'.toU/\(j4 p t)[i]?=some (t',e.2)
 | .hole c,t,pre,_=>⟨by cases t <;> rfl,fun i e h=>by
   match i,h with
   | 0,h=>cases h;exact ⟨[],t,by simp,rfl,by cases t <;> rfl⟩
   | i + 1,h=>cases h⟩
 | .any,.name x,pre,_=>⟨rfl,fun i e h=>by cases h⟩
 | .fr l h,.num n,pre,_=>⟨rfl,fun i e h=>by cases h⟩
 | .turn p,.turn a,pre,hl=>by
  obtain ⟨h1,h2⟩:=rE p a (pre++[0]) hl
  refine ⟨by simp only [bN,List.filterMap_cons,hF,j4];exact h1,fun i e he=>?_⟩
  simp only [bN,List.filterMap_cons,hF] at he
  obtain ⟨s,t',e1,e2,e3⟩:=h2 i e he
  refine ⟨0 :: s,t',by rw [e1];simp,?_,e3⟩
  simp only [jF,Tr.toU,AS,Option.bind_some,e2]
 | .two o p q,.two o' a b,pre,hl=>by
  simp only [cJ,Bool.and_eq_true] at hl
  obtain ⟨ho,hl1,hl2⟩:=hl
  obtain ⟨h1,h2⟩:=rE p a (pre++[0]) hl1
  obtain ⟨k1,k2⟩:=rE q b (pre++[1]) hl2
  simp only [bN,List.filterMap_cons,hF,List.filterMap_append,j4,List.length_append]
  refine ⟨by omega,fun i e he=>?_⟩
  rw [List.getElem?_append] at he
  split at he
  ·rename_i hi
   obtain ⟨s,t',e1,e2,e3⟩:=h2 i e he
   refine ⟨0 :: s,t',by rw [e1];simp,?_,by rw [List.getElem?_append_left (by omega)];exact e3⟩
   simp only [jF,Tr.toU,AH,Option.bind_some,e2]
  ·rename_i hi
   obtain ⟨s,t',e1,e2,e3⟩:=k2 _ e he
   refine ⟨1 :: s,t',by rw [e1];simp,?_,by rw [List.getElem?_append_right (by omega),<- h1];exact e3⟩
   simp only [jF,Tr.toU,AM,Option.bind_some,e2]
 | .any,.num _,_,h=>by cases h
 | .any,.turn _,_,h=>by cases h
 | .any,.two _ _ _,_,h=>by cases h
 | .fr _ _,.name _,_,h=>by cases h
 | .fr _ _,.turn _,_,h=>by cases h
 | .fr _ _,.two _ _ _,_,h=>by cases h
 | .turn _,.num _,_,h=>by cases h
 | .turn _,.name _,_,h=>by cases h
 | .turn _,.two _ _ _,_,h=>by cases h
 | .two _ _ _,.num _,_,h=>by cases h
 | .two _ _ _,.name _,_,h=>by cases h
 | .two _ _ _,.turn _,_,h=>by cases h
structure Tl where
 name:Str
 cls:Str
 pt:Pt
 cost:Int
def Tl.toU (t:Tl):U:=.tup [.str t.name,.str t.cls,t.pt.toU,.int t.cost]
def Tl.pass (t:Tl):Bool:=match t.pt with
 | .hole _=>true
 | _=>false
structure Wt where
 t:Tr
 c:Str
 ps:List Str
def PN (tl:Tl) (w:Wt):List Str:=if tl.pass then w.ps++[tl.cls] else []
def below (tl:Tl) (w:Wt):List Wt:=(j4 tl.pt w.t).map fun x=>⟨x.1,x.2,PN tl w⟩
theorem EO (p:Pt) (h:p.dep<=6):(gF p).length<=64:=by
 have h1:=places_len p
 have h2:2 ^ p.dep<=2 ^ 6:=Nat.pow_le_pow_right (by decide) h
 have h3:(bN p []).length=p.places.length:=by rw [<- List.length_map (f:=(·.1)),jL];simp
 have h4:(gF p).length<=(bN p []).length:=List.length_filterMap_le _ _
 omega
def E9 (tiles:List Tl) (n:Int):List Wt->Option (List Wt)
 | []=>none
 | w :: st=>if 0<=n/\n < tiles.length then
   match tiles[n.toNat]? with
   | some tl=>if tl.cls=w.c/\tl.cls ∉ w.ps/\cJ tl.pt w.t=true then some (below tl w++st) else none
   | none=>none
  else none
def Q8 (tiles:List Tl):List U->List Wt->Bool
 | [],st=>st.isEmpty
 | .int n :: r,st=>match E9 tiles n st with
  | some st'=>Q8 tiles r st'
  | none=>false
 | _ :: _,_=>false
theorem L6 (ss:List Str) (z:Str):((ss.map U.str).any fun u=>uV u (.str z))=decide (z∈ss):=by
 induction ss with
 | nil=>rfl
 | cons a r ih =>
  rw [List.map_cons,List.any_cons,ih]
  have:uV (.str a) (.str z)=decide (z=a):=by
   show (a == z)=_
   by_cases h:z=a
   ·subst h;simp
   ·have k:¬ a=z:=fun k=>h k.symm
    simp [h,k]
  rw [this]
  by_cases h:z=a
  ·subst h;simp
  ·simp [h]
theorem p9 {M:aF} {t:Tl}:view M t.toU=.tup [.str t.name,.str t.cls,t.pt.toU,.int t.cost]:=rfl
def iD (cs:List Str) (tiles:List Tl):U:=.tup [dM cs,.tup (tiles.map Tl.toU)]
theorem jY {M:aF} {cs:List Str} {tiles:List Tl}:view M (iD cs tiles)=.tup [dM cs,.tup (tiles.map Tl.toU)]:=rfl
theorem Ir (B:Nat):∀ ns:List Int,(∀ n∈ns,0<=n/\n<=B)->0<=ns.sum/\ns.sum<=B * ns.length
 | [],_=>by simp
 | n :: ns,h=>by
  obtain ⟨h1,h2⟩:=h n List.mem_cons_self
  obtain ⟨h3,h4⟩:=Ir B ns fun x hx=>h x (List.mem_cons_of_mem _ hx)
  rw [List.sum_cons,List.length_cons]
  have e:(B:Int) * ((ns.length + 1:Nat):Int)=B * ns.length + B:=by
   rw [Int.natCast_add,Int.mul_add];simp
  rw [e]
  exact ⟨by omega,by omega⟩
theorem Gh (ns:List Int):intsOf (ns.map U.int)=some ns:=by
 induction ns with
 | nil=>rfl
 | cons a r ih=>simp only [List.map_cons,intsOf,ih,Option.map_some]
def Hv (tiles:List Tl) (k:Int):Int:=match eL tiles k with
 | some tl=>tl.cost
 | none=>0
def Tl.k (t:Tl):Tk:=⟨t.cls,t.pt,t.cost⟩
structure Tab (cs:List Str) (tls:List Tl):Prop where
 cls:A3 cs
 good:∀ t∈tls,t.k.good cs
 len:tls.length<=39
 okC:∀ t∈tls,t.pt.okC cs
def i8:List Str:=["r","mem","x","addr","con","zz"]
def vA:List Str:=["rowe","a","ab","abc","sumx","by","k","load","m","turns","t","tt","ttt","tttt"]
theorem rS {α β:Type} (g:α->β) (l:List α) (a b:Option Int):dB (l.map g) a b=(dB l a b).map g:=by
 unfold dB
 rw [List.length_map,List.map_take,List.map_drop]
theorem Az {α:Type} {l:List α} {a b:Option Int} {x:α} (h:x∈dB l a b):x∈l:=List.mem_of_mem_drop (List.mem_of_mem_take h)
theorem Ek {α:Type} (l:List α) (a b:Option Int):(dB l a b).length<=l.length:=by
 unfold dB
 rw [List.length_take,List.length_drop];omega
def FP (at_ m:Int):List Str:=dB (dB i8 (some at_) none++dB i8 none (some at_)) none (some m)
theorem JW (w:Int) (h0:0<=w) (h1:w < 6):∃ m:Int,eL [U.int 1,U.int 2,U.int 2,U.int 3,U.int 3,U.int 6] w=some (.int m)/\(m=1\/m=2\/m=3\/m=6):=by
 have e:w=0\/w=1\/w=2\/w=3\/w=4\/w=5:=by omega
 rcases e with rfl | rfl | rfl | rfl | rfl | rfl
 ·exact ⟨1,rfl,by decide⟩
 ·exact ⟨2,rfl,by decide⟩
 ·exact ⟨2,rfl,by decide⟩
 ·exact ⟨3,rfl,by decide⟩
 ·exact ⟨3,rfl,by decide⟩
 ·exact ⟨6,rfl,by decide⟩
theorem Et:∀ s∈i8,PyData.strOk s=true:=by decide +kernel
theorem Mw {w m:Int} (h0:0<=w) (h1:w < 6) (hm:m=1\/m=2\/m=3\/m=6):A3 (FP w m):=by
 have e:w=0\/w=1\/w=2\/w=3\/w=4\/w=5:=by omega
 have hl:(FP w m).length=m.toNat:=by
  rcases e with rfl | rfl | rfl | rfl | rfl | rfl <;> rcases hm with rfl | rfl | rfl | rfl <;> rfl
 refine ⟨fun z=>?_,by rcases hm with rfl | rfl | rfl | rfl <;> (rw [hl];decide),fun s hs=>?_,?_⟩
 ·rw [z] at hl;rcases hm with rfl | rfl | rfl | rfl <;> cases hl
 ·rcases List.mem_append.mp (Az hs) with h | h
  ·exact Et s (Az h)
  ·exact Et s (Az h)
 ·rcases e with rfl | rfl | rfl | rfl | rfl | rfl <;> rcases hm with rfl | rfl | rfl | rfl <;> decide +kernel
theorem DK:∀ s∈vA,s.length<=10:=by decide +kernel
theorem MN (w:Int) (h0:0<=w) (h1:w < 3):∃ s:Str,eL [U.str (Str.ofString ""),U.str (Str.ofString "q"),U.str (Str.ofString "qz")] w=some (.str s)/\s.length<=10:=by
 have e:w=0\/w=1\/w=2:=by omega
 rcases e with rfl | rfl | rfl <;> exact ⟨_,rfl,by decide +kernel⟩
def DY:dC:=fun us M Q=>∃ (t:Addr) (ns:List Int) (b c:Int),us=[.ref t]/\M t=some (.lst (cS ns 0 b c))/\∀ (cs:List Str) (tls:List Tl) (a' b' c':Int),Tab cs tls->0<=a'->a'<=5000->Q (iD cs tls) (mup M t (.lst (cS ns a' b' c')))
theorem KY {α:Type} (l:List α):(List.replicate 3 l).flatten.length=3 * l.length:=by simp [List.replicate];omega
theorem JQ (F:cZ K "_law_table" "_law_table" q9 f fd) (hm:mg "_law_table"=some (.ref f)) (i4:mg "tuple"=none) (dJ:mg "range"=none) (bZ:mg "len"=none) (cD:mg "enumerate"=none) (aX:Callee P w K mg base 1 "_law_draw" kY []) (Dz:Callee P w K mg base 2 "_law_plain" EM []) (Gq:Callee P w K mg base 7 "_law_tile" G4 []):Callee P w K mg base 8 "_law_table" DY []:=by
 refine bT F hm bY (u4 fun _ _ _ _ _ _ _=>rfl) (aD (aR 1 bY.nd (cR (own:=false) (aA cM (aA cM (aA cM (aA cM (aA cM (aA cM aB))))))))
 (aD (aR 2 bY.nd (aM aX (aA (uv 0) (aA aI aB))))
 (aD (aR 3 bY.nd (aQ (cR (own:=false) (aA aI (aA aI (aA aI (aA aI (aA aI (aA aI aB))))))) (aM aX (aA (uv 0) (aA aI aB)))))
 (aD (aR 4 bY.nd (xM Aq i4 (aA (pO (own:=false) (cX (own:=false) (pO (own:=false) (uv 1) (mN (uv 2)) mP) (pO (own:=false) (uv 1) mP (mN (uv 2)))) mP (mN (uv 3))) aB)))
 (aD (aR 5 bY.nd (cR (own:=false) aB))
 (aD (bR (bU AD (aM aX (aA (uv 0) (aA aI aB))) aI)
 (aG (aR 5 bY.nd (aM Dz (aA (uv 0) (aA (uv 4) aB)))))
 bC)
 (aD (eB (As dJ (aA (cX (own:=false) aI (aM aX (aA (uv 0) (aA aI aB)))) aB)) (aZ (k:=1000) 6 bY.nd)
 (aD (aR 7 bY.nd (aM aX (aA (uv 0) (aA (cX (own:=false) (fM i9 bZ (aA (uv 5) aB)) aI) aB))))
 (aG (aR 5 bY.nd (cX (own:=false) (cX (own:=false) (pO (own:=false) (uv 5) mP (mN (uv 7))) (cR (own:=false) (aA (aM Gq (aA (uv 0) (aA (uv 4) aB))) aB))) (pO (own:=false) (uv 5) (mN (uv 7)) mP))))))
 (aD (aR 8 bY.nd (cR (own:=false) (aA cM (aA cM (aA cM (aA cM (aA cM (aA cM (aA cM (aA cM (aA cM (aA cM aB))))))))))))
 (aD (aR 8 bY.nd (cX (own:=false) (uv 8) (cR (own:=false) (aA cM (aA cM (aA cM (aA cM aB)))))))
 (aD (bR (bU eK (aM aX (aA (uv 0) (aA aI aB))) aI)
 (aG (aR 5 bY.nd (LS (own:=false) (uv 5) aI)))
 bC)
 (aD (aR 9 bY.nd (cR (own:=true) aB))
 (aD (eB (Bn cD (aA (uv 5) aB)) (iH (n:=2) (bM (aZ (k:=1000) 6 bY.nd) (bM (aZ (k:=1000) 10 bY.nd) fK)))
 (aD (aR 11 bY.nd (cX (own:=false) (aQ (uv 8) (lA (uv 6) aI)) (aQ (cR (own:=false) (aA cM (aA cM (aA cM aB)))) (Aw (uv 6) aI))))
 (aG (lQ (p8 (uv 9) (aA (cX (own:=false) (bG (aA (uv 11) aB)) (uv 10)) aB))))))
 (aG (aW (bG (aA (uv 4) (aA (xM Aq i4 (aA (uv 9) aB)) aB))))))))))))))))) ?_
 rintro us M Q ⟨t,ns,b,c,rfl,hM,q⟩
 refine ⟨rfl,?_⟩
 rw [<- mD hM]
 refine aE fun V hV=>?_
 simp! only [bA,hName]
 have ep:[U.str (Str.ofString "r"),U.str (Str.ofString "mem"),U.str (Str.ofString "x"),U.str (Str.ofString "addr"),U.str (Str.ofString "con"),U.str (Str.ofString "zz")]=i8.map U.str:=rfl
 rw [ep]
 subst hV
 refine aE fun V hV=>?_
 simp! only [bA,hName]
 refine ⟨t,ns,0,b,c,6,rfl,by decide,by decide,aH,by decide,by decide,fun w a1 b1 c1 w0 w1 g1 g2=>?_⟩
 rw [bX]
 subst hV
 refine aE fun V hV=>?_
 simp! only [bA,hName]
 refine ⟨t,ns,a1,b1,c1,6,rfl,by decide,by decide,aH,by omega,by omega,fun w2 a2 b2 c2 v0 v1 g3 g4=>?_⟩
 rw [bX]
 obtain ⟨m,hmat,hmv⟩:=JW w2 v0 v1
 have hC:=Mw w0 w1 hmv
 simp! only [hmat]
 subst hV
 refine aE fun V hV=>?_
 simp! only [bA,hName,rS]
 have hcl:(dB i8 (some w) none).length + (dB i8 none (some w)).length<=12:=by
  have h1:=Ek i8 (some w) none
  have h2:=Ek i8 none (some w)
  have h3:i8.length=6:=rfl
  omega
 refine ⟨small (by rw [List.length_map,List.length_map];omega),?_⟩
 have ec:U.tup (dB ((dB i8 (some w) none).map U.str++(dB i8 none (some w)).map U.str) none (some m))=dM (FP w m):=by
  rw [<- List.map_append,rS];rfl
 simp only [ec]
 generalize FP w m=cs at *
 subst hV
 refine aE fun V hV=>?_
 simp! only [bA,hName]
 subst hV
 refine aE fun V hV=>?_
 have go:∀ (ks:List Tk) (a3 b3 c3:Int),(∀ k∈ks,k.goodC cs)->ks.length<=6->0<=a3->a3<=1000->V [some (.ref t),some (.lst (i8.map U.str)),some (.int w),some (.int m),some (dM cs),some (.lst (ks.map Tk.toU)),none,none,none,none,none,none] (mup M t (.lst (cS ns a3 b3 c3))):=by
  intro ks a3 b3 c3 hk hkl h0 h1
  subst hV
  refine aE fun V1 hV1=>?_
  simp! only [Gb]
  refine ⟨t,ns,a3,b3,c3,7,rfl,by decide,by decide,aH,by omega,by omega,fun n7 a4 b4 c4 k0 k1 g7 g8=>?_⟩
  rw [bX]
  simp! only [true_and]
  refine ⟨by omega,by omega,fun i τ Mi=>∃ (ks:List Tk) (a' b' c':Int) (z6 z7:Option U),τ=[some (.ref t),some (.lst (i8.map U.str)),some (.int w),some (.int m),some (dM cs),some (.lst (ks.map Tk.toU)),z6,z7,none,none,none,none]/\Mi=mup M t (.lst (cS ns a' b' c'))/\(∀ k∈ks,k.goodC cs)/\ks.length<=6 + i/\0<=a'/\a'<=1001 + 300 * i,⟨ks,a4,b4,c4,none,none,rfl,rfl,hk,by omega,by omega,by omega⟩,nk,?_,?_⟩
  ·rintro i x τ Mi e ⟨ks,a5,b5,c5,z6,z7,rfl,rfl,hk,hkl,h2,h3⟩
   obtain ⟨rfl,hi⟩:=lY e
   have hi7:i < 7:=by omega
   simp! only [hName]
   refine aE fun V2 hV2=>?_
   simp! only [bA,hName,List.length_map]
   refine ⟨t,ns,a5,b5,c5,(ks.length:Int) + 1,rfl,by omega,by omega,aH,by omega,by omega,fun sp a6 b6 c6 s0 s1 g9 g10=>?_⟩
   rw [bX]
   subst hV2
   obtain ⟨j,rfl⟩:∃ j:Nat,sp=(j:Int):=⟨_,(Int.toNat_of_nonneg s0).symm⟩
   have cA:dB ks none (some (j:Int))=ks.take j:=by
    unfold dB
    have e:HT.bP ks.length ks.length (some (j:Int))=j:=by
     simp only [HT.bP];rw [if_neg (by omega)];omega
    rw [e];simp [HT.bP]
   have cB:dB ks (some (j:Int)) none=ks.drop j:=by
    unfold dB
    have e:HT.bP ks.length 0 (some (j:Int))=j:=by
     simp only [HT.bP];rw [if_neg (by omega)];omega
    have e2:HT.bP ks.length ks.length none=ks.length:=rfl
    rw [e,e2,List.take_of_length_le (by rw [List.length_drop];omega)]
   simp! only [bA,hName,rS,cA,cB]
   refine ⟨t,ns,a6,b6,c6,cs,rfl,aH,hC,by omega,by omega,fun kk a7 b7 c7 hkk g11 g12=>?_⟩
   rw [bX]
   simp! only [true_and]
   have em:(ks.take j).map Tk.toU++[kk.toU]++(ks.drop j).map Tk.toU=(ks.take j++[kk]++ks.drop j).map Tk.toU:=by simp
   have hlj:(ks.take j++[kk]++ks.drop j).length=ks.length + 1:=by simp only [List.length_append,List.length_take,List.length_drop,List.length_cons,List.length_nil];omega
   refine ⟨small (by rw [List.length_map,List.length_take];omega),small (by rw [List.length_append,List.length_map,List.length_map,List.length_take,List.length_drop];simp;omega),?_⟩
   rw [em]
   refine ⟨_,a7,b7,c7,_,_,rfl,rfl,fun k hk'=>?_,by omega,by omega,by omega⟩
   rcases List.mem_append.mp hk' with hk' | hk'
   ·rcases List.mem_append.mp hk' with hk' | hk'
    ·exact hk k (List.mem_of_mem_take hk')
    ·cases List.mem_singleton.mp hk';exact hkk
   ·exact hk k (List.mem_of_mem_drop hk')
  ·rintro τ Mi ⟨ks,a5,b5,c5,z6,z7,rfl,rfl,hk,hkl,h2,h3⟩
   rw [n9] at hkl h3
   have hk13:ks.length<=13:=by omega
   have ha5:a5<=4000:=by omega
   subst hV1
   refine aE fun V2 hV2=>?_
   simp! only [bA,hName]
   subst hV2
   refine aE fun V2 hV2=>?_
   simp! only [bA,hName]
   have en:[U.str (Str.ofString "rowe"),U.str (Str.ofString "a"),U.str (Str.ofString "ab"),U.str (Str.ofString "abc"),U.str (Str.ofString "sumx"),U.str (Str.ofString "by"),U.str (Str.ofString "k"),U.str (Str.ofString "load"),U.str (Str.ofString "m"),U.str (Str.ofString "turns"),U.str (Str.ofString "t"),U.str (Str.ofString "tt"),U.str (Str.ofString "ttt"),U.str (Str.ofString "tttt")]=vA.map U.str:=rfl
   rw [en]
   subst hV2
   refine aE fun V2 hV2=>?_
   have last:∀ (ks:List Tk) (T':List U),(∀ k∈ks,k.goodC cs)->ks.length<=39->(∃ a' b' c':Int,T'=cS ns a' b' c'/\0<=a'/\a'<=5000)->V2 ([some (.ref t),some (.lst (i8.map U.str)),some (.int w),some (.int m),some (dM cs),some (.lst (ks.map Tk.toU)),z6,z7,some (.lst (vA.map U.str)),none,none,none]) (mup M t (.lst T')):=by
    intro ks T' hk hkl hT'
    subst hV2
    refine aE fun V3 hV3=>?_
    simp! only [bA,hName]
    intro r hr
    have htr:t≠r:=fun z=>by subst z;rw [aH] at hr;cases hr
    have hMr:M r=none:=by rw [aO (fun z=>htr z.symm)] at hr;exact hr
    subst hV3
    refine aE fun V3 hV3=>?_
    refine eS (S:=⟨none,numbered (ks.map Tk.toU)⟩) (M1:=st2 M t r T' []) (fun R r=>by simp! only [true_and];exact r)
     (fun i τ Mi=>∃ (tls:List Tl) (z6 z10 z11:Option U),τ=[some (.ref t),some (.lst (i8.map U.str)),some (.int w),some (.int m),some (dM cs),some (.lst (ks.map Tk.toU)),z6,z7,some (.lst (vA.map U.str)),some (.ref r),z10,z11]/\Mi=st2 M t r T' (tls.map Tl.toU)/\(∀ x∈tls,x.k.goodC cs)/\tls.length<=i) ⟨[],_,none,none,rfl,rfl,(fun x h=>by cases h),by simp⟩ nk ?_ ?_
    ·rintro i x τ Mi e ⟨tls,y6,y10,y11,rfl,rfl,htl,hll⟩
     obtain ⟨v,hv,rfl⟩:=kA e
     rw [List.getElem?_map] at hv
     cases hj:ks[i]? with
     | none=>rw [hj] at hv;cases hv
     | some kk =>
      rw [hj] at hv
      cases hv
      have hi:=(List.getElem?_eq_some_iff.mp hj).1
      have hkk:=hk kk (List.mem_of_getElem? hj)
      obtain ⟨nm,hnm⟩:=zY vA ((i:Int) % 14) (Int.emod_nonneg _ (by decide)) (Int.emod_lt_of_pos _ (by decide))
      have hnm':=B3 hnm
      have hnl:=DK nm (rR hnm)
      obtain ⟨sf,hsf,hsl⟩:=MN ((i:Int) / 14) (by omega) (by omega)
      refine ⟨rfl,?_⟩
      simp! only [gB,eT,iC,hName]
      refine aE fun V4 hV4=>?_
      simp! only [bA,hName,hnm',hsf]
      refine ⟨by decide,⟨by decide,by decide⟩,small (by omega),?_⟩
      subst hV4
      simp! only [hZ,Tk.toU]
      refine ⟨⟨_,jE iQ⟩,?_⟩
      simp! only [iQ,mJ]
      refine ⟨big (by rw [List.length_map];omega),tls++[⟨nm++sf,kk.cls,kk.pt,kk.cost⟩],_,_,_,rfl,by simp [Tl.toU],fun x hx=>?_,by simp;omega⟩
      rcases List.mem_append.mp hx with hx | hx
      ·exact htl x hx
      ·cases List.mem_singleton.mp hx;exact hkk
    ·rintro τ Mi ⟨tls,y6,y10,y11,rfl,rfl,htl,hll⟩
     rw [kC,List.length_map] at hll
     subst hV3
     simp! only [bS,jE iQ]
     refine ⟨_,mup M t (.lst T'),fun z o hz=>?_,.inl rfl,by obtain ⟨a9,b9,c9,rfl,h8,h9⟩:=hT';exact q cs tls a9 b9 c9 ⟨hC,fun x hx=>(htl x hx).1,by omega,fun x hx=>(htl x hx).2⟩ h8 h9⟩
     have hzr:z≠r:=fun e=>by subst e;rw [aO (fun e=>htr e.symm),hMr] at hz;cases hz
     show mup (mup M t _) r _ z=_
     rw [aO hzr];exact hz
   refine bD fun A B hA hB=>?_
   simp! only [true_and]
   refine ⟨t,ns,a5,b5,c5,8,rfl,by decide,by decide,aH,by omega,by omega,fun w8 a6 b6 c6 k0 k1 g9 g10=>?_⟩
   rw [bX]
   simp! only [true_and]
   refine fS (fun _=>?_) (fun _=>?_)
   ·subst hA
    simp! only [bA,hName]
    have h3l:(List.replicate 3 ks).flatten.length=3 * ks.length:=KY ks
    have e3:(List.replicate (Int.toNat 3) (ks.map Tk.toU)).flatten=((List.replicate 3 ks).flatten).map Tk.toU:=by
     show (List.replicate 3 (ks.map Tk.toU)).flatten=_
     simp [List.replicate]
    refine ⟨by decide,by decide,small (by rw [List.length_map];show ks.length * 3<=_;omega),?_⟩
    rw [e3]
    exact last _ _ (fun k hk'=>by
     obtain ⟨l,h1,h2⟩:=List.mem_flatten.mp hk'
     rw [List.eq_of_mem_replicate h1] at h2
     exact hk k h2) (by omega) ⟨a6,b6,c6,rfl,by omega,by omega⟩
   ·subst hB
    simp only [bF]
    exact last ks _ hk (by omega) ⟨a6,b6,c6,rfl,by omega,by omega⟩
 refine bD fun A B hA hB=>?_
 simp! only [true_and]
 refine ⟨t,ns,a2,b2,c2,4,rfl,by decide,by decide,aH,by omega,by omega,fun w3 a3 b3 c3 k0 k1 g5 g6=>?_⟩
 rw [bX]
 simp! only [true_and]
 refine fS (fun _=>?_) (fun _=>?_)
 ·subst hA
  simp! only [bA,hName]
  refine ⟨t,ns,a3,b3,c3,cs,rfl,aH,hC,by omega,by omega,fun ks a4 b4 c4 hk hkl g7 g8=>?_⟩
  rw [bX]
  exact go ks a4 b4 c4 hk hkl (by omega) (by omega)
 ·subst hB
  simp only [bF]
  exact go [] a3 b3 c3 (fun k h=>by cases h) (by simp) (by omega) (by omega)
def Tr.leafy:Tr->Bool
 | .num _=>true
 | .name _=>true
 | _=>false
def Tr.parts:Tr->List Tr
 | .turn a=>[a]
 | .two _ a b=>[a,b]
 | _=>[]
def Tr.places:Tr->List (List Nat)
 | .turn a=>[] :: a.places.map (0 :: ·)
 | .two _ a b=>[] :: (a.places.map (0 :: ·)++b.places.map (1 :: ·))
 | _=>[[]]
def Tr.size:Tr->Nat
 | .turn a=>a.size + 1
 | .two _ a b=>a.size + b.size + 1
 | _=>1
theorem fE:∀ t:Tr,t.places.length=t.size
 | .turn a=>by simp only [Tr.places,Tr.size,List.length_cons,List.length_map,fE a]
 | .two _ a b=>by simp only [Tr.places,Tr.size,List.length_cons,List.length_append,List.length_map,fE a,fE b]
 | .num _=>rfl
 | .name _=>rfl
theorem gO:∀ (p:Tr) (pl:List Nat),pl∈p.places->pl.length < p.size
 | .turn a,pl,h=>by
  simp only [Tr.places,List.mem_cons,List.mem_map] at h
  rcases h with rfl | ⟨q,hq,rfl⟩
  ·simp [Tr.size]
  ·have:=gO a q hq;simp only [Tr.size,List.length_cons];omega
 | .two o a b,pl,h=>by
  simp only [Tr.places,List.mem_cons,List.mem_append,List.mem_map] at h
  rcases h with rfl | ⟨q,hq,rfl⟩ | ⟨q,hq,rfl⟩
  ·simp [Tr.size]
  ·have:=gO a q hq;simp only [Tr.size,List.length_cons];omega
  ·have:=gO b q hq;simp only [Tr.size,List.length_cons];omega
 | .num _,pl,h=>by simp [Tr.places] at h;subst h;simp [Tr.size]
 | .name _,pl,h=>by simp [Tr.places] at h;subst h;simp [Tr.size]
def i6 (n:Nat):dC:=fun us M Q=>∃ p:Tr,us=[p.toU]/\p.dep<=n/\p.size<=1000/\Q (.lst (p.places.map aN)) M
theorem s_num:(d9 iG (Str.ofString "num")).isSome=false:=by decide +kernel
theorem O0:(d9 iG (Str.ofString "name")).isSome=false:=by decide +kernel
theorem Fg (p:Tr):∃ z r,p.toU=.tup (.str z :: r)/\(d9 iG z).isSome=!p.leafy/\(p.leafy=false->r=p.parts.map Tr.toU)/\r.length<=3:=by
 cases p with
 | num c=>exact ⟨_,_,rfl,s_num,(fun h=>by cases h),by simp⟩
 | name c=>exact ⟨_,_,rfl,O0,(fun h=>by cases h),by simp⟩
 | turn a=>exact ⟨_,_,rfl,oI,fun _=>rfl,by simp⟩
 | two o a b=>exact ⟨_,_,rfl,pR o,fun _=>rfl,by simp⟩
theorem wU {p:Tr} (h:p.leafy=true):p.parts=[]:=by cases p <;> first | rfl | cases h
def fI:Nat->List Tr->List (List Nat)
 | _,[]=>[]
 | k,a :: r=>a.places.map (k :: ·)++fI (k + 1) r
theorem size_pos (t:Tr):1<=t.size:=by cases t <;> simp [Tr.size]
theorem zJ (p:Tr):p.places=[] :: fI 0 p.parts:=by cases p <;> simp [Tr.places,Tr.parts,fI]
theorem DD (l:List Tr) (a:Tr):∀ k,fI k (l++[a])=fI k l++a.places.map ((k + l.length) :: ·):=by
 induction l with
 | nil=>intro k;simp [fI]
 | cons b l ih=>intro k;simp only [List.cons_append,fI,ih,List.length_cons,List.append_assoc];rw [show k + 1 + l.length=k + (l.length + 1) by omega]
theorem Ip (p:Tr) (i:Nat):(fI 0 (p.parts.take i)).length + 1<=p.places.length:=by
 have:∀ (l:List Tr) (k j:Nat),(fI k (l.take j)).length<=(fI k l).length:=by
  intro l
  induction l with
  | nil=>intro k j;simp [fI]
  | cons a l ih =>
   intro k j
   cases j with
   | zero=>simp [fI]
   | succ j=>simp only [List.take_succ_cons,fI,List.length_append];have:=ih (k + 1) j;omega
 have h1:=this p.parts 0 i
 rw [zJ p,List.length_cons]
 omega
theorem A4 {p a:Tr} {i:Nat} (h:p.parts[i]?=some a):a.dep < p.dep:=by
 have hm:=List.mem_of_getElem? h
 cases p with
 | turn b =>
  have:a=b:=by simpa [Tr.parts] using hm
  subst this;simp only [Tr.dep];omega
 | two o b c =>
  have:a=b\/a=c:=by simpa [Tr.parts] using hm
  simp only [Tr.dep]
  rcases this with rfl | rfl <;> omega
 | _=>cases hm
theorem zV {p a:Tr} {i:Nat} (h:p.parts[i]?=some a):a.size < p.size:=by
 have hm:=List.mem_of_getElem? h
 cases p with
 | turn b =>
  have:a=b:=by simpa [Tr.parts] using hm
  subst this;simp only [Tr.size];omega
 | two o b c =>
  have:a=b\/a=c:=by simpa [Tr.parts] using hm
  simp only [Tr.size]
  rcases this with rfl | rfl <;> omega
 | _=>cases hm
theorem Bu {n:Nat} (F:cZ K "places_of" "places_of" jK f fd) (hm:mg "places_of"=some (.ref f)) (cD:mg "enumerate"=none)
  (cP:Callee P w K mg base 1 "parts_of" gA []) (iJ:Callee P w K mg base (n + 1) "places_of" (i6 n) []):Callee P w K mg base (n + 2) "places_of" (i6 (n + 1)) []:=by
 refine bT F hm fG (u4 fun _ _ _ _ _ _ _=>rfl) (aD (aR 1 fG.nd (cR (own:=true) (aA (bG aB) aB)))
 (aD (eB (o9 cD (aA (aM cP (aA (uv 0) aB)) aB)) (iH (n:=2) (bM (aZ (k:=1000) 2 fG.nd) (bM (aZ (k:=1000) 3 fG.nd) fK)))
 (aG (lQ (Bk (uv 1) (aA (mX false ["place","number"] 1 [2] (eX (aM iJ (aA (uv 3) aB))) (aZ (k:=1) 0 (by dsimp only [b8];decide +kernel)) jH (cX (own:=false) (bG (aA (uv 1) aB)) (uv 0))) aB)))))
 (aG (aW (uv 1))))) ?_
 rintro us M Q ⟨t,rfl,hd,hz,q⟩
 refine ⟨rfl,?_⟩
 have hbig:∀ a:Tr,a.size<=1000->a.places.length<=1000:=fun a ha=>by rw [fE];exact ha
 dsimp? only [fD,lK]
 refine fun p hp=>?_
 refine eS (S:=⟨none,numbered (t.parts.map Tr.toU)⟩) (M1:=mup M p (.lst [.tup []])) (fun R r=>?_)
  (fun i τ Mi=>∃ b c,τ=[some t.toU,some (.ref p),b,c]/\Mi=mup M p (.lst (([] :: fI 0 (t.parts.take i)).map aN))) ⟨none,none,rfl,rfl⟩ nk ?_ ?_
 ·obtain ⟨z,rr,e,e1,e2,e3⟩:=Fg t
  refine ⟨z,rr,!t.leafy,by rw [<- e];rfl,e1,by omega,?_⟩
  cases hl:t.leafy with
  | true=>simp only [hl,Bool.not_true,Bool.false_eq_true,if_false];rw [wU hl] at r;exact r
  | false=>simp only [hl,Bool.not_false,if_true];rw [e2 hl];exact r
 ·rintro i x τ Mi e ⟨b,c,rfl,rfl⟩
  obtain ⟨u,hu,rfl⟩:=kA e
  rw [List.getElem?_map] at hu
  cases hp':t.parts[i]? with
  | none=>rw [hp'] at hu;cases hu
  | some a =>
   rw [hp'] at hu
   cases hu
   have ha:=A4 hp'
   have hin:fI 0 (t.parts.take (i + 1))=fI 0 (t.parts.take i)++a.places.map (i :: ·):=by
    have hlt:=(List.getElem?_eq_some_iff.mp hp').1
    rw [List.take_add_one,hp']
    have:=DD (t.parts.take i) a 0
    rw [List.length_take,Nat.min_eq_left (Nat.le_of_lt hlt),Nat.zero_add] at this
    exact this
   have hsz:=zV hp'
   have hb1:=hbig a (by omega)
   dsimp? only [fD,lK]
   refine ⟨AG,dX (S:=⟨none,a.places.map aN⟩) (M1:=mup M p (MO.lst (aN [] :: List.map aN (fI 0 (List.take i t.parts))))) (a.places.map fun pl=>aN (i :: pl)) (fun R r'=>⟨a,rfl,by omega,by omega,r'⟩) (by simp) ?_ (fun a e=>by cases e) ?_ ?_⟩
   ·show (a.places.map aN).length<=sizeLine
    rw [List.length_map]
    exact small (by omega)
   ·intro j x y hx hy M' _ R r'
    have hx':(a.places.map aN)[j]?=some x:=hx
    rw [List.getElem?_map] at hx' hy
    cases hpl:a.places[j]? with
    | none=>rw [hpl] at hx';cases hx'
    | some pl =>
     rw [hpl] at hx' hy
     cases hx'
     cases hy
     have h1:=gO a pl (List.mem_of_getElem? hpl)
     dsimp? only [aN,fD,lK]
     refine ⟨small ?_,?_⟩
     ·simp only [List.length_cons,List.length_nil,List.length_map];omega
     ·simpa [aN] using r'
   ·have h1:=Ip t i
    have h2:=hbig t (by omega)
    dsimp? only [fD,lK]
    refine ⟨small ?_,_,_,rfl,?_⟩
    ·simp only [List.length_map];omega
    ·rw [hin,List.map_append,List.map_map];rfl
 ·rintro τ Mi ⟨b,c,rfl,rfl⟩
  rw [kC,List.length_map,List.take_length,<- zJ]
  dsimp? only [fD,lK]
  exact ⟨_,M,(Sub.refl M).mup hp,.inr ⟨p,_,rfl,aH,hp,rfl⟩,q⟩
theorem wZ (F:cZ K "places_of" "places_of" jK f fd) (hm:mg "places_of"=some (.ref f)) (cD:mg "enumerate"=none) (cP:Callee P w K mg base 1 "parts_of" gA []):∀ n,Callee P w K mg base (n + 1) "places_of" (i6 n) []
 | 0=>by
  have no:∀ us M Q,¬ i6 0 us M Q:=fun us M Q h=>by
   obtain ⟨p,_,h,_⟩:=h
   have:=Ko p
   omega
  refine ⟨f,fd,["shape"],[],[],⟨fun vs H Q E h=>?_,fun A outer s H args us vs Q E _ _ _ _ h=>?_⟩,hm,F.kp,F.binds (u4 fun _ _ _ _ _ _ _=>rfl),.nil,fun H M=>.nil⟩
  ·obtain ⟨us,M,Q',_,_,h,_⟩:=h;exact absurd h (no us M Q')
  ·obtain ⟨us,M,Q',_,_,h,_⟩:=h;exact absurd h (no us M Q')
 | n + 1=>Bu F hm cD cP (wZ F hm cD cP n)
theorem Iz (F:cZ K "places" "places" xB f fd) (hm:mg "places"=some (.ref f)) (iJ:Callee P w K mg base 13 "places_of" (i6 12) []):Callee P w K mg base 14 "places" (i6 12) []:=by
 refine bT F hm HQ (u4 fun _ _ _ _ _ _ _=>rfl) (aG (aW (aM iJ (aA (uv 0) aB)))) ?_
 rintro us M Q ⟨p,rfl,hd,hs,q⟩
 refine ⟨rfl,?_⟩
 simp! only [bS]
 exact ⟨p,rfl,hd,hs,aU q⟩
def E6 (w:Int):Op:=if w % 3=0 then .sum else if w % 3=1 then .less else .by_
theorem MS (w:Int):eL [U.str (Str.ofString "sum"),U.str (Str.ofString "less"),U.str (Str.ofString "by")] (w % 3)=some (.str (E6 w).word):=by
 have e:w % 3=0\/w % 3=1\/w % 3=2:=by omega
 unfold E6
 rcases e with e | e | e <;> rw [e] <;> rfl
theorem Js (w:Int) (h0:0<=w) (h1:w < 4):∃ s:Str,eL [U.str (Str.ofString "a"),U.str (Str.ofString "x"),U.str (Str.ofString "sum"),U.str (Str.ofString "rows")] w=some (.str s)/\PyData.strOk s=true/\s.length<=100:=by
 have e:w=0\/w=1\/w=2\/w=3:=by omega
 rcases e with rfl | rfl | rfl | rfl <;> exact ⟨_,rfl,by decide +kernel,by decide +kernel⟩
def NX (n:Nat):dC:=fun us M Q=>∃ (t r:Addr) (ns:List Int) (a b c x:Int),us=[.ref t,.int (n:Int),.ref r]/\1<=n/\n<=12/\t≠r/\M t=some (.lst (cS ns a b c))/\M r=some (.lst [.int x])/\x<=40/\0<=a/\a + 1000 * (n:Int)<=20000 /\
 ∀ (tr:Tr) (a' b' c':Int),tr.ok->tr.dep<=n->(tr.size:Int)<=max (x - 1) 0 + n->(x<=2->tr.size=1)->a<=a'->a'<=a + 5 * tr.size->Q tr.toU (st2 M t r (cS ns a' b' c') [.int (x - tr.size)])
def rQ (N:Nat):dC:=fun us M Q=>∃ n,n<=N/\NX n us M Q
theorem M7 {N:Nat} (F:cZ K "_law_tree" "_law_tree" n4 f fd) (hm:mg "_law_tree"=some (.ref f)) (aX:Callee P w K mg base 1 "_law_draw" kY []) (dU:Callee P w K mg base 2 "_law_number" oP []) (lV:Callee P w K mg base (N + 2) "_law_tree" (rQ N) []):Callee P w K mg base (N + 3) "_law_tree" (rQ (N + 1)) []:=by
 refine bT F hm m5 (wJ fun _ _ _ _ _ _ _ _ _=>rfl) (aD (lN (iT (aQ (uv 2) aI) aI) (uv 2) aI)
 (aD (aR 3 m5.nd (aM aX (aA (uv 0) (aA aI aB))))
 (aD (bR (kS.pt (l0 (bU eK (uv 1) aI) (l0 (bU t4 (aQ (uv 2) aI) aI) (nD (bU t4 (uv 3) aI)))))
 (aD (bR (bU eK (aM aX (aA (uv 0) (aA aI aB))) aI)
 (aG (aW (bG (aA cM (aA (aQ (cR (own:=false) (aA cM (aA cM (aA cM (aA cM aB))))) (aM aX (aA (uv 0) (aA aI aB)))) aB)))))
 bC)
 (aG (aW (bG (aA cM (aA (aM dU (aA (uv 0) aB)) aB))))))
 bC)
 (aD (aR 4 m5.nd (aM lV (aA (uv 0) (aA (iT (uv 1) aI) (aA (uv 2) aB)))))
 (aD (bR (bU eK (uv 3) aI)
 (aG (aW (bG (aA cM (aA (uv 4) aB)))))
 bC)
 (aD (aR 5 m5.nd (aQ (cR (own:=false) (aA cM (aA cM (aA cM aB)))) (lA (uv 3) aI)))
 (aG (aW (bG (aA (uv 5) (aA (uv 4) (aA (aM lV (aA (uv 0) (aA (iT (uv 1) aI) (aA (uv 2) aB)))) aB)))))))))))) ?_
 rintro us M Q ⟨n1,hnN,t,r,ns,a,b,c,x,rfl,hn1,hn12,htr,hMt,hMr,hx,ha0,ha1,q⟩
 refine ⟨rfl,?_⟩
 obtain ⟨n,rfl⟩:∃ n,n1=n + 1:=⟨n1 - 1,by omega⟩
 have hrt:r≠t:=fun z=>htr z.symm
 have hMM:=Cs hMt hMr
 rw [<- hMM]
 have vt:∀ T R,view (st2 M t r T R) (.ref t)=.lst T:=fun T R=>jE (eC htr)
 have vr:∀ T R,view (st2 M t r T R) (.ref r)=.lst R:=fun T R=>jE iQ
 refine aE fun V hV=>?_
 simp! only [eV,vr]
 simp only [iQ]
 refine ⟨0,rfl,?_⟩
 simp only [mJ,List.set_cons_zero]
 subst hV
 refine aE fun V hV=>?_
 simp! only [bA,hName]
 refine ⟨t,ns,a,b,c,9,rfl,by decide,by decide,eC htr,ha0,by omega,fun way a1 b1 c1 w0 w1 l1 l2=>?_⟩
 rw [dH htr]
 subst hV
 refine aE fun V hV=>?_
 refine bD fun A B hA hB=>?_
 have leaf:A (st2 M t r (cS ns a1 b1 c1) [.int (x - 1)]):=by
  subst hA
  refine aE fun V1 hV1=>?_
  refine bD fun A1 B1 hA1 hB1=>?_
  simp! only [true_and]
  refine ⟨t,ns,a1,b1,c1,2,rfl,by decide,by decide,eC htr,by omega,by omega,fun k a2 b2 c2 k0 k1 g1 g2=>?_⟩
  rw [dH htr]
  simp! only [true_and]
  refine fS (fun _=>?_) (fun _=>?_)
  ·subst hA1
   simp! only [bS]
   refine ⟨t,ns,a2,b2,c2,4,rfl,by decide,by decide,eC htr,by omega,by omega,fun k a3 b3 c3 k0 k1 g3 g4=>?_⟩
   rw [dH htr]
   obtain ⟨s,hat,hs1,hs2⟩:=Js k k0 k1
   simp! only [hat]
   exact aU (q (.name s) a3 b3 c3 ⟨hs1,hs2⟩ (by simp [Tr.dep]) (by simp only [Tr.size];omega) (fun _=>rfl) (by omega) (by simp only [Tr.size];omega))
  ·subst hB1
   simp only [bF]
   subst hV1
   simp! only [bS]
   refine ⟨t,ns,a2,b2,c2,rfl,eC htr,by omega,by omega,fun m a3 b3 c3 f0 f1 g5 g6=>?_⟩
   rw [dH htr]
   simp! only [true_and]
   exact aU (q (.num m) a3 b3 c3 trivial (by simp [Tr.dep]) (by simp only [Tr.size];omega) (fun _=>rfl) (by omega) (by simp only [Tr.size];omega))
 simp! only [vr]
 refine fS (fun _=>leaf) (fun hn=>fS (fun _=>leaf) (fun hx2=>fS (fun _=>leaf) (fun hw=>?_)))
 have hn':1<=n:=by
  have:¬ ((n + 1:Nat):Int)=1:=by simpa using hn
  omega
 have hx3:2<=x - 1:=by
  have:¬ x - 1 < 2:=by simpa using hx2
  omega
 have en:((n + 1:Nat):Int) - 1=(n:Int):=by omega
 subst hB
 simp only [bF]
 subst hV
 refine aE fun V hV=>?_
 simp! only [bA,hName,en]
 refine ⟨n,by omega,t,r,ns,a1,b1,c1,x - 1,rfl,hn',by omega,htr,eC htr,iQ,by omega,by omega,by omega,fun p1 a2 b2 c2 po1 pd1 ps1 pl1 g1 g2=>?_⟩
 rw [oK htr]
 have sp1:=size_pos p1
 subst hV
 refine aE fun V hV=>?_
 refine bD fun A B hA hB=>?_
 simp! only [true_and]
 refine fS (fun _=>?_) (fun h3=>?_)
 ·subst hA
  simp! only [bS]
  have e:x - 1 - (p1.size:Int)=x - ((Tr.turn p1).size:Int):=by simp only [Tr.size];omega
  rw [e]
  exact aU (q (.turn p1) a2 b2 c2 po1 (by simp only [Tr.dep];omega) (by simp only [Tr.size];omega) (fun h=>by omega) (by omega) (by simp only [Tr.size];omega))
 ·subst hB
  simp only [bF]
  subst hV
  refine aE fun V hV=>?_
  simp! only [bA,hName,MS]
  refine ⟨by decide,?_⟩
  subst hV
  simp! only [bS,en]
  refine ⟨n,by omega,t,r,ns,a2,b2,c2,x - 1 - p1.size,rfl,hn',by omega,htr,eC htr,iQ,by omega,by omega,by omega,fun p2 a3 b3 c3 po2 pd2 ps2 pl2 g3 g4=>?_⟩
  rw [oK htr]
  have sp2:=size_pos p2
  try simp! only [true_and]
  have e:x - 1 - (p1.size:Int) - (p2.size:Int)=x - ((Tr.two (E6 way) p1 p2).size:Int):=by simp only [Tr.size];omega
  rw [e]
  refine aU (q (.two (E6 way) p1 p2) a3 b3 c3 ⟨po1,po2⟩ (by simp only [Tr.dep];omega) ?_ (fun h=>by omega) (by omega) (by simp only [Tr.size];omega))
  simp only [Tr.size]
  by_cases h:x - 1 - (p1.size:Int)<=2
  ·have:=pl2 h;omega
  ·omega
theorem B8 (F:cZ K "_law_tree" "_law_tree" n4 f fd) (hm:mg "_law_tree"=some (.ref f)) (aX:Callee P w K mg base 1 "_law_draw" kY []) (dU:Callee P w K mg base 2 "_law_number" oP []):∀ n,Callee P w K mg base (n + 2) "_law_tree" (rQ n) []
 | 0=>by
  have no:∀ us M Q,¬ rQ 0 us M Q:=fun us M Q h=>by
   obtain ⟨_,h0,_,_,_,_,_,_,_,_,h,_⟩:=h
   omega
  refine ⟨f,fd,["tape","left","room"],[],[],⟨fun vs H Q E h=>?_,fun A outer s H args us vs Q E _ _ _ _ h=>?_⟩,hm,F.kp,F.binds (wJ fun _ _ _ _ _ _ _ _ _=>rfl),.nil,fun H M=>.nil⟩
  ·obtain ⟨us,M,Q',_,_,h,_⟩:=h;exact absurd h (no us M Q')
  ·obtain ⟨us,M,Q',_,_,h,_⟩:=h;exact absurd h (no us M Q')
 | n + 1=>M7 F hm aX dU (B8 F hm aX dU n)
end
end K28
namespace K28
open PySem L2 U2
section
variable {α β:Type} [DecidableEq α]
def asc (l:List (α × β)) (a:α):Option β:=(l.find? fun e=>decide (e.1=a)).map (·.2)
def jO (l:List (α × β)) (a:α) (b:β):List (α × β):=if (l.any fun e=>decide (e.1=a))=true then l.map (fun e=>if e.1=a then (e.1,b) else e) else l++[(a,b)]
theorem iW {p:α × β} {r:List (α × β)} {a:α} (e:p.1=a):asc (p :: r) a=some p.2:=by simp [asc,List.find?_cons,e]
theorem iU {p:α × β} {r:List (α × β)} {a:α} (e:¬ p.1=a):asc (p :: r) a=asc r a:=by simp [asc,List.find?_cons,e]
theorem oM (a:α):∀ l:List (α × β),(l.any fun e=>decide (e.1=a))=(asc l a).isSome
 | []=>rfl
 | p :: r=>by
  rw [List.any_cons]
  by_cases e:p.1=a
  ·simp only [iW e,decide_eq_true e,Bool.true_or,Option.isSome_some]
  ·rw [iU e,decide_eq_false e,Bool.false_or];exact oM a r
theorem kI {a:α} {l:List (α × β)}:(asc l a).isSome=true ↔ a∈l.map (·.1):=by
 rw [<- oM,List.any_eq_true]
 constructor
 ·rintro ⟨e,he,h⟩;exact List.mem_map.mpr ⟨e,he,of_decide_eq_true h⟩
 ·intro h;obtain ⟨e,he,h⟩:=List.mem_map.mp h;exact ⟨e,he,decide_eq_true h⟩
theorem Ck {a:α} {l:List (α × β)}:asc l a=none ↔ a ∉ l.map (·.1):=by
 rw [<- kI];cases asc l a <;> simp
theorem Ec (a:α) (b:β) (x:α):∀ l:List (α × β),asc (l.map fun e=>if e.1=a then (e.1,b) else e) x=(asc l x).map fun y=>if x=a then b else y
 | []=>rfl
 | p :: r=>by
  have ih:=Ec a b x r
  rw [List.map_cons]
  by_cases h:p.1=a
  ·rw [if_pos h]
   by_cases e:p.1=x
   ·rw [iW (p:=(p.1,b)) e,iW e,Option.map_some,if_pos (e.symm.trans h)]
   ·rw [iU (p:=(p.1,b)) e,iU e,ih]
  ·rw [if_neg h]
   by_cases e:p.1=x
   ·rw [iW (p:=p) e,iW e,Option.map_some,if_neg (fun z=>h (e.trans z))]
   ·rw [iU (p:=p) e,iU e,ih]
theorem oJ (x:α):∀ l r:List (α × β),asc (l++r) x=match asc l x with | some b=>some b | none=>asc r x
 | [],r=>rfl
 | p :: l,r=>by
  rw [List.cons_append]
  by_cases e:p.1=x
  ·rw [iW e,iW e]
  ·rw [iU e,iU e];exact oJ x l r
theorem lO (l:List (α × β)) (a x:α) (b:β):asc (jO l a b) x=if x=a then some b else asc l x:=by
 unfold jO
 by_cases h:(l.any fun e=>decide (e.1=a))=true
 ·rw [if_pos h,Ec]
  rw [oM] at h
  by_cases e:x=a
  ·obtain ⟨y,hy⟩:=Option.isSome_iff_exists.mp h
   rw [if_pos e,e,hy,Option.map_some,if_pos rfl]
  ·rw [if_neg e]
   cases asc l x with
   | none=>rfl
   | some y=>rw [Option.map_some,if_neg e]
 ·rw [if_neg h,oJ]
  rw [oM] at h
  by_cases e:x=a
  ·subst e
   cases q:asc l x with
   | none=>rw [if_pos rfl];exact iW (p:=(x,b)) rfl
   | some y=>rw [q] at h;exact absurd rfl h
  ·rw [if_neg e]
   cases q:asc l x with
   | some y=>rfl
   | none=>exact iU (p:=(a,b)) (fun z=>e z.symm)
theorem pV (l:List (α × β)) (a:α) (b:β):(jO l a b).map (·.1)=if (asc l a).isSome then l.map (·.1) else l.map (·.1)++[a]:=by
 unfold jO
 rw [oM]
 cases (asc l a).isSome with
 | true =>
  simp only [if_true,List.map_map]
  refine List.map_congr_left fun e _=>?_
  dsimp only [Function.comp]
  split <;> rfl
 | false=>simp
theorem DW (l:List (α × β)) (a:α) (b:β):(jO l a b).length=if (asc l a).isSome then l.length else l.length + 1:=by
 have:=congrArg List.length (pV l a b)
 rw [List.length_map] at this
 rw [this]
 cases (asc l a).isSome <;> simp
end
section
variable {σ:Type}
def bO (f:σ->Option Int):List σ->Option Int
 | []=>some 0
 | s :: r=>match f s,bO f r with
  | some a,some b=>some (a + b)
  | _,_=>none
theorem iF {f:σ->Option Int} {s:σ} {r:List σ} {w:Int} (h:bO f (s :: r)=some w):∃ a b,f s=some a/\bO f r=some b/\w=a + b:=by
 simp only [bO] at h
 split at h
 ·rename_i a b h1 h2;cases h;exact ⟨a,b,h1,h2,rfl⟩
 ·cases h
theorem qA {f:σ->Option Int} {s:σ} {r:List σ} {a b:Int} (h1:f s=some a) (h2:bO f r=some b):bO f (s :: r)=some (a + b):=by
 simp only [bO,h1,h2]
theorem oE {f g:σ->Option Int}:∀ {l:List σ},(∀ s∈l,f s=g s)->bO f l=bO g l
 | [],_=>rfl
 | s :: r,h=>by simp only [bO];rw [h s List.mem_cons_self,oE fun x hx=>h x (List.mem_cons_of_mem _ hx)]
theorem tZ {f:σ->Option Int}:∀ {l:List σ} {w:Int},bO f l=some w->∀ s∈l,∃ a,f s=some a
 | [],_,_,s,hs=>by cases hs
 | x :: r,w,h,s,hs=>by
  obtain ⟨a,b,h1,h2,rfl⟩:=iF h
  rcases List.mem_cons.mp hs with rfl | hs
  ·exact ⟨a,h1⟩
  ·exact tZ h2 s hs
theorem rA {f:σ->Option Int} (hf:∀ s a,f s=some a->0<=a):∀ {l:List σ} {w:Int},bO f l=some w->0<=w
 | [],w,h=>by cases h;omega
 | x :: r,w,h=>by
  obtain ⟨a,b,h1,h2,rfl⟩:=iF h
  have:=hf x a h1
  have:=rA hf h2
  omega
theorem ER {f:σ->Option Int} (hf:∀ s a,f s=some a->0<=a):∀ {l:List σ} {w:Int},bO f l=some w->∀ s∈l,∀ a,f s=some a->a<=w
 | [],w,h,s,hs,a,ha=>by cases hs
 | x :: r,w,h,s,hs,a,ha=>by
  obtain ⟨a1,b,h1,h2,rfl⟩:=iF h
  have p1:=hf x a1 h1
  have p2:=rA hf h2
  rcases List.mem_cons.mp hs with rfl | hs
  ·rw [ha] at h1;cases h1;omega
  ·have:=ER hf h2 s hs a ha;omega
theorem qC {f g:σ->Option Int} {s0:σ} (h:∀ s a,f s=some a->∃ a',g s=some a'/\a'<=a/\(s=s0->a' < a)):∀ {l:List σ} {w:Int},bO f l=some w->∃ w',bO g l=some w'/\w'<=w/\(s0∈l->w' < w)
 | [],w,e=>by cases e;exact ⟨0,rfl,by omega,fun h=>by cases h⟩
 | x :: r,w,e=>by
  obtain ⟨a,b,h1,h2,rfl⟩:=iF e
  obtain ⟨a',g1,g2,g3⟩:=h x a h1
  obtain ⟨b',k1,k2,k3⟩:=qC h h2
  refine ⟨a' + b',qA g1 k1,by omega,fun hm=>?_⟩
  rcases List.mem_cons.mp hm with rfl | hm
  ·have:=g3 rfl;omega
  ·have:=k3 hm;omega
end
structure Ld where
 n:Nat
 cls:Str
 price:Int
 spots:List (List Nat × Str)
abbrev VM:=List (Str × Int)
abbrev CM:=List (Str × Ld)
abbrev VS:=List (List Nat × VM)
abbrev CS:=List (List Nat × CM)
def aY (vs:VS) (s:List Nat × Str):Option Int:=(asc vs s.1).bind fun m=>asc m s.2
def cur (vs:VS) (p:List Nat) (m:VM) (s:List Nat × Str):Option Int:=if s.1=p then asc m s.2 else aY vs s
theorem rY {vs:VS} {p:List Nat} {m:VM} (h:asc vs p=none) (s:List Nat × Str):cur vs p m s=aY (vs++[(p,m)]) s:=by
 unfold cur aY
 rw [oJ]
 by_cases e:s.1=p
 ·rw [if_pos e,e,h]
  show _=(asc [(p,m)] p).bind _
  rw [iW (p:=(p,m)) rfl];rfl
 ·rw [if_neg e]
  cases q:asc vs s.1 with
  | some b=>rfl
  | none =>
   show _=(asc [(p,m)] s.1).bind _
   rw [iU (p:=(p,m)) (fun z=>e z.symm)];rfl
structure AU (cs:List Str) (vs:VS) (p:List Nat) (sz:Nat) (l:Ld):Prop where
 p0:0<=l.price
 p1:l.price<=1000
 cls:l.cls∈cs
 len:l.spots.length<=64
 there:∀ s∈l.spots,s.1=p\/(asc vs s.1).isSome=true
 way:(∃ c2,l.spots=[(p,c2)])\/((∀ s∈l.spots,s.1≠p)/\∀ w,bO (aY vs) l.spots=some w->w<=6000 * ((sz:Int) - 1))
def Ei (vs:VS):Prop:=∀ s v,aY vs s=some v->0<=v/\v<=100000000
structure J (cs:List Str) (vs:VS) (p:List Nat) (sz:Nat) (ls:List Ld) (m:VM) (ch:CM):Prop where
 keys:m.map (·.1)=ch.map (·.1)
 nd:(m.map (·.1)).Nodup
 sub:∀ c∈m.map (·.1),c∈cs
 just:∀ c v,asc m c=some v->0<=v/\v<=1000 * (6 * ((sz:Int) - 1) + m.length)/\∃ l,asc ch c=some l/\l∈ls/\l.cls=c/\∃ w,bO (cur vs p m) l.spots=some w/\l.price + w<=v
 rk:∃ (rk:Str->Nat) (T:Nat),(∀ c,rk c < T)/\∀ c v l w,asc m c=some v->asc ch c=some l->bO (cur vs p m) l.spots=some w->l.price + w < v\/∀ s∈l.spots,s.1=p->rk s.2 < rk c
def Fix (vs:VS) (p:List Nat) (ls:List Ld) (m:VM):Prop:=∀ l∈ls,∀ w,bO (cur vs p m) l.spots=some w->∃ v,asc m l.cls=some v/\v<=l.price + w
section
variable {cs:List Str} {vs:VS} {p:List Nat} {sz:Nat} {ls:List Ld} {m:VM} {ch:CM}
theorem J.nil:J cs vs p sz ls [] []:=⟨rfl,List.nodup_nil,(fun c h=>by cases h),(fun c v h=>by cases h),fun _=>0,1,(fun _=>Nat.zero_lt_one),fun c v l w h=>by cases h⟩
theorem J.cur0 (j:J cs vs p sz ls m ch) (hv:Ei vs):∀ s a,cur vs p m s=some a->0<=a:=fun s a h=>by
 unfold cur at h
 split at h
 ·exact (j.just _ _ h).1
 ·exact (hv _ _ h).1
theorem J.len6 (j:J cs vs p sz ls m ch) (h6:cs.length<=6):m.length<=6:=by
 have:∀ (l k:List Str),l.Nodup->(∀ s∈l,s∈k)->l.length<=k.length:=by
  intro l
  induction l with
  | nil=>intro k _ _;simp
  | cons a l ih =>
   intro k hn hs
   obtain ⟨h1,h2⟩:=List.nodup_cons.mp hn
   have ha:=hs a List.mem_cons_self
   have:=ih (k.erase a) h2 fun s hsl=>by
    refine (List.mem_erase_of_ne fun z=>?_).mpr (hs s (List.mem_cons_of_mem _ hsl))
    subst z;exact h1 hsl
   rw [List.length_erase_of_mem ha] at this
   have hp:0 < k.length:=List.length_pos_of_mem ha
   simp only [List.length_cons];omega
 have h:=this _ _ j.nd j.sub
 rw [List.length_map] at h
 omega
theorem J.step {l:Ld} {w:Int} (hv:Ei vs) (hl:l∈ls) (ok:AU cs vs p sz l) (j:J cs vs p sz ls m ch) (hw:bO (cur vs p m) l.spots=some w) (hlow:∀ v,asc m l.cls=some v->l.price + w < v) :
  J cs vs p sz ls (jO m l.cls (l.price + w)) (jO ch l.cls l):=by
 have h0:=j.cur0 hv
 have hw0:=rA h0 hw
 have hsz:(1:Int)<=sz\/(sz:Int)=0:=by omega
 have hc':∀ s,cur vs p (jO m l.cls (l.price + w)) s=if s=(p,l.cls) then some (l.price + w) else cur vs p m s:=by
  rintro ⟨q,c⟩
  unfold cur
  dsimp only
  by_cases e:q=p
  ·subst e
   rw [if_pos rfl,if_pos rfl,lO]
   by_cases e2:c=l.cls
   ·subst e2;rw [if_pos rfl,if_pos rfl]
   ·rw [if_neg e2,if_neg (fun z=>e2 (Prod.mk.inj z).2)]
  ·rw [if_neg e,if_neg e,if_neg (fun z=>e (Prod.mk.inj z).1)]
 have hstep:∀ s a,cur vs p m s=some a->∃ a',cur vs p (jO m l.cls (l.price + w)) s=some a'/\a'<=a/\(s=(p,l.cls)->a' < a):=fun s a h=>by
  rw [hc']
  by_cases e:s=(p,l.cls)
  ·subst e
   have h':asc m l.cls=some a:=by unfold cur at h;rw [if_pos rfl] at h;exact h
   have:=hlow a h'
   rw [if_pos rfl]
   exact ⟨_,rfl,by omega,fun _=>this⟩
  ·rw [if_neg e]
   exact ⟨a,h,by omega,fun z=>absurd z e⟩
 have hlen:m.length<=(jO m l.cls (l.price + w)).length:=by rw [DW];split <;> omega
 have hch:(asc ch l.cls).isSome=(asc m l.cls).isSome:=by
  have e1:=@kI _ _ _ l.cls ch
  have e2:=@kI _ _ _ l.cls m
  rw [j.keys] at e2
  cases h1:(asc ch l.cls).isSome <;> cases h2:(asc m l.cls).isSome <;> first | rfl | (exfalso;rw [h1] at e1;rw [h2] at e2;first | exact absurd (e2.mpr (e1.mp rfl)) (by decide) | exact absurd (e1.mpr (e2.mp rfl)) (by decide))
 refine ⟨?_,?_,?_,?_,?_⟩
 ·rw [pV,pV,hch,j.keys]
 ·rw [pV]
  cases h:(asc m l.cls).isSome with
  | true=>simp only [if_true];exact j.nd
  | false =>
   simp only [Bool.false_eq_true,if_false]
   have:l.cls ∉ m.map (·.1):=fun z=>by rw [kI.mpr z] at h;cases h
   exact List.nodup_append.mpr ⟨j.nd,by simp,fun a ha b hb=>by
    cases List.mem_singleton.mp hb
    intro z;subst z;exact this ha⟩
 ·intro c hc
  rw [pV] at hc
  cases h:(asc m l.cls).isSome with
  | true=>rw [h] at hc;simp only [if_true] at hc;exact j.sub c hc
  | false =>
   rw [h] at hc
   simp only [Bool.false_eq_true,if_false,List.mem_append,List.mem_singleton] at hc
   rcases hc with hc | rfl
   ·exact j.sub c hc
   ·exact ok.cls
 ·intro c v h
  rw [lO] at h
  by_cases e:c=l.cls
  ·subst e
   rw [if_pos rfl] at h
   cases h
   obtain ⟨w',g1,g2,_⟩:=qC hstep hw
   have p0:=ok.p0
   have p1:=ok.p1
   refine ⟨by omega,?_,l,by rw [lO,if_pos rfl],hl,rfl,w',g1,by omega⟩
   rw [DW]
   cases hm:asc m l.cls with
   | some old =>
    have:=hlow old hm
    have:=(j.just _ _ hm).2.1
    simp only [Option.isSome_some,if_true]
    omega
   | none =>
    simp only [Option.isSome_none,Bool.false_eq_true,if_false]
    rcases ok.way with ⟨c2,hs⟩ | ⟨hs,hb⟩
    ·rw [hs] at hw
     obtain ⟨a,b,k1,k2,rfl⟩:=iF hw
     cases k2
     have k1':asc m c2=some a:=by unfold cur at k1;rw [if_pos rfl] at k1;exact k1
     have:=(j.just _ _ k1').2.1
     omega
    ·have:=hb w (by rw [<- hw];exact oE fun s hs'=>by unfold cur;rw [if_neg (hs s hs')])
     omega
  ·rw [if_neg e] at h
   obtain ⟨v0,v1,l1,a1,a2,a3,w1,a4,a5⟩:=j.just c v h
   obtain ⟨w',g1,g2,_⟩:=qC hstep a4
   exact ⟨v0,by omega,l1,by rw [lO,if_neg e];exact a1,a2,a3,w',g1,by omega⟩
 ·obtain ⟨rk,T,hT,hr⟩:=j.rk
  refine ⟨fun c=>if c=l.cls then T else rk c,T + 1,fun c=>by
   show (if c=l.cls then T else rk c) < T + 1
   by_cases z:c=l.cls
   ·rw [if_pos z];omega
   ·rw [if_neg z];have:=hT c;omega,fun c v l1 w1 h1 h2 h3=>?_⟩
  rw [lO] at h1 h2
  by_cases e:c=l.cls
  ·subst e
   rw [if_pos rfl] at h1 h2
   cases h1;cases h2
   refine .inr fun s hs hsp=>?_
   dsimp only
   rw [if_pos rfl]
   by_cases e2:s.2=l.cls
   ·exfalso
    obtain ⟨a,ha⟩:=tZ hw s hs
    have:=ER h0 hw s hs a ha
    have ha':asc m l.cls=some a:=by unfold cur at ha;rw [if_pos hsp,e2] at ha;exact ha
    have:=hlow a ha'
    have:=ok.p0
    omega
   ·rw [if_neg e2];exact hT _
  ·rw [if_neg e] at h1 h2
   obtain ⟨v0,v1,l2,a1,a2,a3,w2,a4,a5⟩:=j.just c v h1
   rw [h2] at a1;cases a1
   obtain ⟨w',g1,g2,g3⟩:=qC hstep a4
   rw [h3] at g1;cases g1
   by_cases hin:(p,l.cls)∈l1.spots
   ·have:=g3 hin;exact .inl (by omega)
   ·rcases hr c v l1 w2 h1 h2 a4 with hlt | hall
    ·exact .inl (by omega)
    ·refine .inr fun s hs hsp=>?_
     dsimp only
     rw [if_neg e,if_neg (fun z=>hin (by obtain ⟨s1,s2⟩:=s;dsimp only at hsp z;subst hsp z;exact hs))]
     exact hall s hs hsp
def mv (B:Nat):Option Int->Nat
 | some v=>v.toNat
 | none=>B
def mu (B:Nat) (cs:List Str) (m:VM):Nat:=(cs.map fun c=>mv B (asc m c)).sum
theorem LQ {B:Nat} {c0:Str} {v0:Int} {m:VM} (hv0:0<=v0) (hB:v0.toNat < B) (hlow:∀ v,asc m c0=some v->v0 < v):∀ cs:List Str,mu B cs (jO m c0 v0)<=mu B cs m/\(c0∈cs->mu B cs (jO m c0 v0) < mu B cs m)
 | []=>⟨Nat.le_refl _,fun h=>by cases h⟩
 | c :: cs=>by
  obtain ⟨h1,h2⟩:=LQ hv0 hB hlow cs
  have e1:∀ m:VM,mu B (c :: cs) m=mv B (asc m c) + mu B cs m:=fun m=>by simp only [mu,List.map_cons,List.sum_cons]
  rw [e1,e1,lO]
  by_cases e:c=c0
  ·subst e
   rw [if_pos rfl]
   have:v0.toNat < mv B (asc m c):=by
    cases hm:asc m c with
    | none=>exact hB
    | some v=>have:=hlow v hm;show v0.toNat < v.toNat;omega
   exact ⟨by show v0.toNat + _<=_;omega,fun _=>by show v0.toNat + _ < _;omega⟩
  ·rw [if_neg e]
   refine ⟨by omega,fun hm=>?_⟩
   rcases List.mem_cons.mp hm with rfl | hm
   ·exact absurd rfl e
   ·have:=h2 hm;omega
theorem J.low {l:Ld} {w:Int} (hv:Ei vs) (hl:l∈ls) (ok:AU cs vs p sz l) (h6:cs.length<=6) (hs1:1<=sz) (j:J cs vs p sz ls m ch) (hw:bO (cur vs p m) l.spots=some w) (hlow:∀ v,asc m l.cls=some v->l.price + w < v) :
  mu (6000 * sz + 1) cs (jO m l.cls (l.price + w)) < mu (6000 * sz + 1) cs m:=by
 have j':=j.step hv hl ok hw hlow
 have h6':=j'.len6 h6
 obtain ⟨v0,v1,_⟩:=j'.just l.cls (l.price + w) (by rw [lO,if_pos rfl])
 exact (LQ v0 (by omega) hlow cs).2 ok.cls
structure vF (cs:List Str) (vs:VS) (p:List Nat) (sz:Nat) (ls:List Ld) (m:VM) (ch:CM):Prop where
 keys:m.map (·.1)=ch.map (·.1)
 nd:(m.map (·.1)).Nodup
 sub:∀ c∈m.map (·.1),c∈cs
 just:∀ c v,asc m c=some v->0<=v/\v<=6000 * sz/\∃ l,asc ch c=some l/\l∈ls/\l.cls=c/\∃ w,bO (cur vs p m) l.spots=some w/\v=l.price + w
 rk:∃ rk:Str->Nat,∀ c l,asc ch c=some l->∀ s∈l.spots,s.1=p->rk s.2 < rk c
 fix:Fix vs p ls m
theorem J.fill (h6:cs.length<=6) (j:J cs vs p sz ls m ch) (hf:Fix vs p ls m):vF cs vs p sz ls m ch:=by
 have eq:∀ c v l w,asc m c=some v->asc ch c=some l->bO (cur vs p m) l.spots=some w->v=l.price + w/\l∈ls/\l.cls=c:=fun c v l w h1 h2 h3=>by
  obtain ⟨v0,v1,l1,a1,a2,a3,w1,a4,a5⟩:=j.just c v h1
  rw [h2] at a1;cases a1
  rw [h3] at a4;cases a4
  obtain ⟨v',b1,b2⟩:=hf l a2 w h3
  rw [a3,h1] at b1;cases b1
  exact ⟨by omega,a2,a3⟩
 refine ⟨j.keys,j.nd,j.sub,fun c v h=>?_,?_,hf⟩
 ·obtain ⟨v0,v1,l1,a1,a2,a3,w1,a4,a5⟩:=j.just c v h
  have:=j.len6 h6
  exact ⟨v0,by omega,l1,a1,a2,a3,w1,a4,(eq c v l1 w1 h a1 a4).1⟩
 ·obtain ⟨rk,T,hT,hr⟩:=j.rk
  refine ⟨rk,fun c l h s hs hsp=>?_⟩
  have:(asc m c).isSome=true:=by
   rw [kI,j.keys,<- kI,h];rfl
  obtain ⟨v,hv⟩:=Option.isSome_iff_exists.mp this
  obtain ⟨v0,v1,l1,a1,a2,a3,w1,a4,a5⟩:=j.just c v hv
  rw [h] at a1;cases a1
  rcases hr c v l w1 hv h a4 with hlt | hall
  ·have:=(eq c v l w1 hv h a4).1;omega
  ·exact hall s hs hsp
def pk (p:List Nat):List Key:=p.map fun (n:Nat)=>Sum.inl (n:Int)
theorem yJ {p q:List Nat} (h:pk p=pk q):p=q:=by
 induction p generalizing q with
 | nil=>cases q with
  | nil=>rfl
  | cons a r=>cases h
 | cons a r ih=>cases q with
  | nil=>cases h
  | cons b s =>
   simp only [pk,List.map_cons,List.cons.injEq,Sum.inl.injEq] at h
   have h1:a=b:=by omega
   rw [h1,ih h.2]
theorem rN (p:List Nat):jP (p.map fun (n:Nat)=>U.int (n:Int))=some (pk p):=by
 induction p with
 | nil=>rfl
 | cons a r ih=>simp only [List.map_cons,jP,nP,ih];rfl
def Ld.toU (l:Ld):U:=.tup [.int l.n,.str l.cls,.int l.price,.lst (l.spots.map cV)]
def D6 (l:Ld):U:=.tup [.int l.n,.lst (l.spots.map cV)]
def lU (m:VM):List (Key × U):=m.map fun e=>(Sum.inr e.1,.int e.2)
def xK (ch:CM):List (Key × U):=ch.map fun e=>(Sum.inr e.1,D6 e.2)
def mK (m:VM):U:=.dic (m.map fun e=>[Sum.inr e.1]) false (m.map fun e=>.int e.2)
def Ae (ch:CM):U:=.dic (ch.map fun e=>[Sum.inr e.1]) false (ch.map fun e=>D6 e.2)
def jX (vs:VS):List (List Key × U):=vs.map fun e=>(pk e.1,mK e.2)
def kR (cs:CS):List (List Key × U):=cs.map fun e=>(pk e.1,Ae e.2)
section
variable {α β κ:Type} [DecidableEq α] [DecidableEq κ]
theorem pL (k:α->κ) (hk:∀ a b,k a=k b->a=b) (g:β->U) (a:α):∀ l:List (α × β),cU (l.map fun e=>(k e.1,g e.2)) (k a)=(asc l a).map g
 | []=>rfl
 | p :: r=>by
  rw [List.map_cons]
  by_cases e:p.1=a
  ·rw [jV (p:=(k p.1,g p.2)) (by rw [e]),iW e];rfl
  ·rw [mW (p:=(k p.1,g p.2)) (fun z=>e (hk _ _ z)),iU e];exact pL k hk g a r
theorem Cf (k:α->κ) (hk:∀ a b,k a=k b->a=b) (g:β->U) (a:α) (b:β) (l:List (α × β)):gI (l.map fun e=>(k e.1,g e.2)) (k a) (g b)=(jO l a b).map fun e=>(k e.1,g e.2):=by
 unfold gI jO
 rw [xC,pL k hk,oM,Option.isSome_map]
 cases (asc l a).isSome with
 | true =>
  simp only [if_true,List.map_map]
  refine List.map_congr_left fun e _=>?_
  dsimp only [Function.comp]
  by_cases h:e.1=a
  ·rw [if_pos (by rw [h]),if_pos h]
  ·rw [if_neg (fun z=>h (hk _ _ z)),if_neg h]
 | false=>simp
theorem sA (k:κ):∀ l r:List (κ × U),cU (l++r) k=match cU l k with | some u=>some u | none=>cU r k
 | [],r=>rfl
 | p :: l,r=>by
  rw [List.cons_append]
  by_cases e:p.1=k
  ·rw [jV e,jV e]
  ·rw [mW e,mW e];exact sA k l r
end
theorem AL:∀ a b:Str,(Sum.inr a:Key)=Sum.inr b->a=b:=fun a b h=>Sum.inr.inj h
theorem zC (m:VM) (c:Str):cU (lU m) (.inr c)=(asc m c).map U.int:=pL (fun c:Str=>(Sum.inr c:Key)) AL U.int c m
theorem Ml (m:VM) (c:Str) (v:Int):gI (lU m) (.inr c) (.int v)=lU (jO m c v):=Cf (fun c:Str=>(Sum.inr c:Key)) AL U.int c v m
theorem L8 (m:CM) (c:Str) (l:Ld):gI (xK m) (.inr c) (D6 l)=xK (jO m c l):=Cf (fun c:Str=>(Sum.inr c:Key)) AL D6 c l m
theorem FR (vs:VS) (p:List Nat):cU (jX vs) (pk p)=(asc vs p).map mK:=pL pk (fun _ _=>yJ) mK p vs
theorem Qz (vs:CS) (p:List Nat):cU (kR vs) (pk p)=(asc vs p).map Ae:=pL pk (fun _ _=>yJ) Ae p vs
theorem Ih {γ:Type} (g:γ->U) (k:Str->Key):∀ m:List (Str × γ),((m.map fun e=>[k e.1]).map B7).zip (m.map fun e=>g e.2)=m.map fun e=>(k e.1,g e.2)
 | []=>rfl
 | e :: m=>by simp only [List.map_cons,List.zip_cons_cons,B7];rw [Ih g k m]
theorem BZ {M:aF} (m:VM):iZ M (mK m)=some (.dK (lU m)):=by
 simp only [mK,iZ];rw [Ih U.int Sum.inr m];rfl
theorem CV {M:aF} {v:Addr} {kvs:List (List Key × U)} (p:List Nat) (h:M v=some (.dT kvs)):fF true M (.ref v) (aN p)=some (cU kvs (pk p)):=by
 simp only [fF,iZ,h,aN,rN,Option.map_some]
theorem CW {M:aF} {x:U} {kvs:List (Key × U)} (c:Str) (h:iZ M x=some (.dK kvs)):fF false M x (.str c)=some (cU kvs (.inr c)):=by
 simp only [fF,h,nP]
theorem LB {M:aF} {x:U} {kvs:List (Key × U)} (h:iZ M x=some (.dK kvs)):AK M x=true:=by simp only [AK,h]
theorem NB {M M':aF} {x:U} {mo:MO} (s:Sub M M') (h:iZ M x=some mo):iZ M' x=some mo:=by
 cases x with
 | ref a=>exact s a _ h
 | dic ks tk us=>cases tk <;> exact h
 | _=>cases h
def eO:Option Int->U
 | some a=>.int a
 | none=>.non
def Fh (pr:Int):Option Int->U
 | some w=>.int (pr + w)
 | none=>.non
theorem Cb (f:List Nat × Str->Option Int):∀ spots:List (List Nat × Str),(∃ ns:List Int,spots.map (fun s=>eO (f s))=ns.map U.int/\bO f spots=some ns.sum/\(∀ n∈ns,∃ s∈spots,f s=some n)/\ns.length=spots.length)\/((spots.map (fun s=>eO (f s))).any (fun u=>uV u .non)=true/\bO f spots=none)
 | []=>.inl ⟨[],rfl,rfl,(fun n h=>by cases h),rfl⟩
 | s :: r=>by
  cases h:f s with
  | none=>exact .inr ⟨by simp [h,eO,uV],by simp only [bO,h]⟩
  | some a =>
   rcases Cb f r with ⟨ns,h1,h2,h3,h4⟩ | ⟨h1,h2⟩
   ·refine .inl ⟨a :: ns,by rw [List.map_cons,List.map_cons,h1,h];rfl,by rw [qA h h2,List.sum_cons],fun n hn=>?_,by simp [h4]⟩
    rcases List.mem_cons.mp hn with rfl | hn
    ·exact ⟨s,List.mem_cons_self,h⟩
    ·obtain ⟨s',h5,h6⟩:=h3 n hn;exact ⟨s',List.mem_cons_of_mem _ h5,h6⟩
   ·exact .inr ⟨by simp only [List.map_cons,List.any_cons,h1,Bool.or_true],by simp only [bO,h,h2]⟩
theorem IZ (f:List Nat × Str->Option Int) (spots:List (List Nat × Str)):(spots.map (fun s=>eO (f s))).all lG=true:=by
 induction spots with
 | nil=>rfl
 | cons s r ih =>
  rw [List.map_cons,List.all_cons,ih]
  cases f s <;> rfl
theorem LX (ns:List Int):((ns.map U.int).any fun u=>uV u .non)=false:=by
 induction ns with
 | nil=>rfl
 | cons a r ih=>rw [List.map_cons,List.any_cons,ih];rfl
theorem Qo {ns:List Int} (h:∀ n∈ns,0<=n/\n<=100000000) (hl:ns.length<=64):PySem.SumFits ns:=by
 intro j hj
 have hm:ns.getD j 0∈ns:=by
  rw [List.getD_eq_getElem?_getD,List.getElem?_eq_getElem hj];exact List.getElem_mem hj
 obtain ⟨h1,h2⟩:=h _ hm
 obtain ⟨h3,h4⟩:=Ir 100000000 (ns.take (j + 1)) fun x hx=>h x (List.mem_of_mem_take hx)
 have h5:(ns.take (j + 1)).length<=64:=by rw [List.length_take];omega
 have h6:((100000000:Nat):Int) * ((ns.take (j + 1)).length:Int)<=6400000000:=by omega
 constructor <;> (unfold InLong;constructor <;> omega)
def OB:dC:=fun us M Q=>∃ (pr:Int) (ns:List Int),us=[.int pr,.lst (ns.map .int)]/\(∀ n∈ns,0<=n/\n<=100000000)/\ns.length<=64/\Q (.int (pr + ns.sum)) M
local macro_rules | `(tactic| simp! only [$xs,*] $[$l]?) => `(tactic| simp only [$xs,*, Bool.false_eq_true, Bool.not_false, Bool.not_true, List.append_nil, List.cons_append, List.getElem?_cons_succ, List.getElem?_cons_zero, List.length_cons, List.length_nil, List.map_cons, List.map_nil, List.nil_append, List.replicate, List.set_cons_succ, List.set_cons_zero, Nat.add_sub_cancel, Nat.reduceAdd, Nat.reduceLeDiff, Nat.reduceSub, Nat.sub_self, Option.getD_some, Option.some.injEq, and_true, CQ, Cu, at2, B5, t5, tO, tB, tF, m3, qK, mZ, xN, rP, uP, kX, A5, Ba, Bc, Ca, cY, decide_false, decide_true, mB, l9, exists_eq_left', if_false, if_true, w6, pY, gG, dQ, dP, d7, dO, d8, dE, fQ, fL, gW, fV, gP, eY, fR, fP, gU, gD, gS, fA, gM, gX, iI, hG, iM, fX, gC, fO, gR, fT, gQ, eZ, gY, gZ, iP, gN, iK, fY, fB, fC, fW, e8, fN, eM, items, tY, jG, oQ, jM, xS, oY, jQ, bX, aH, reduceCtorEq, gT, BG, true_and, t6, qN, nB, tE, nZ, wQ, xA, uC, wN, oA, nE, k5, oB, nV, lW, xX, uI, oO, zA, vC, qJ, n5, w4, xH, tJ, tH, qL, xU, tD, kM, tI, m7, oF, kO, yK, sM, nU, vL, Ah, n6, n8, xJ, Av, lR, tG, sI, Ct, o5, t7, fD, oG, o6, o4, pH, nG, o7, pT] $[$l]?)
theorem zG (F:cZ K "joined_price" "joined_price" mO f fd) (F3:mg "sum"=none):xT P w K mg base 1 f OB:=by
 refine ⟨fd,["price","prices"],DZ F yB (fun us M Q h=>by obtain ⟨_,_,rfl,_⟩:=h;rfl) (aG (aW (cX (own:=false) (uv 0) (fM Qr F3 (aA (uv 1) aB))))) ?_,F.kp,F.binds (uQ fun _ _ _ _ _ _ _ _=>rfl)⟩
 rintro us M Q ⟨pr,ns,rfl,hb,hl,q⟩
 simp! only [bS,Gh,bK,bJ,cQ,bQ,bW,bV]
 exact ⟨Qo hb hl,aU q⟩
def BA (M:aF) (v:Addr) (g:List Nat × Str->Option Int) (s:List Nat × Str):Prop:=∃ kvs x kv2,M v=some (.dT kvs)/\cU kvs (pk s.1)=some x/\iZ M x=some (.dK kv2)/\cU kv2 (.inr s.2)=(g s).map U.int
def II (fj:Addr):dC:=fun us M Q=>∃ (pr:Int) (spots:List (List Nat × Str)) (v:Addr) (g:List Nat × Str->Option Int),us=[.int pr,.lst (spots.map cV),.ref v,.ref fj]/\spots.length<=64/\(∀ s∈spots,BA M v g s)/\(∀ s∈spots,∀ a,g s=some a->0<=a/\a<=100000000)/\Q (Fh pr (bO g spots)) M
theorem Bw {fj:Addr} (F:cZ K "join_spots" "join_spots" oN f fd) (hm:mg "join_spots"=some (.ref f)) (hNK:jS K) (A_joined:xT P w K mg base 1 fj OB):Callee P w K mg base 2 "join_spots" (II fj) []:=by
 refine bT F hm uW (Le fun _ _ _ _ _ _ _ _ _ _=>rfl) (aD (vJ 4 uW.nd false ["place","cls","values"] 2 [2] (eX (uv 1)) (iH (n:=2) (bM (aZ (k:=2) 0 (by dsimp only [b8];decide +kernel)) (bM (aZ (k:=2) 1 (by dsimp only [b8];decide +kernel)) fK))) jH (Cc false Ad (iR true (fun _=>hNK) (uv 2) (uv 0)) (uv 1)))
 (aG (aW (LD (bU OA nH (uv 4)) nH (JY 3 A_joined (aA (uv 0) (aA (uv 4) aB))))))) ?_
 rintro us M Q ⟨pr,spots,v,g,rfl,hl,hat,hb,q⟩
 refine ⟨rfl,?_⟩
 refine aE fun V hV=>?_
 refine dX (S:=⟨none,spots.map cV⟩) (M1:=M) (spots.map fun s=>eO (g s)) (fun R r=>r) (by simp) (small (by show (spots.map cV).length<=_;rw [List.length_map];omega)) (fun a e=>by cases e) ?_ ?_
 ·intro j x y hx hy M' hS R r'
  have hx':(spots.map cV)[j]?=some x:=hx
  rw [List.getElem?_map] at hx' hy
  cases hj:spots[j]? with
  | none=>rw [hj] at hx';cases hx'
  | some s =>
   rw [hj] at hx' hy
   cases hx';cases hy
   obtain ⟨kvs,xx,kv2,e1,e2,e3,e4⟩:=hat s (List.mem_of_getElem? hj)
   have l1:=CV s.1 (hS v _ e1)
   have e3':=NB hS e3
   have l2:=CW s.2 e3'
   have l3:=LB e3'
   simp! only [cV,gB,eT,iC,hName,l1,e2,l2,l3,e4,bK,bJ,cQ,bQ,bW,bV]
   have r2:R (eO (g s)) M':=r'
   cases hg:g s with
   | none=>rw [hg] at r2;exact r2
   | some a=>rw [hg] at r2;exact r2
 ·simp! only [hName,bK,bJ,cQ,bQ,bW,bV]
  subst hV
  simp! only [bS,IZ,show lG .non=true from rfl,bK,bJ,cQ,bQ,bW,bV]
  rcases Cb g spots with ⟨ns,h1,h2,h3,h4⟩ | ⟨h1,h2⟩
  ·rw [h1,LX]
   simp! only [bK,bJ,cQ,bQ,bW,bV]
   refine ⟨pr,ns,rfl,fun n hn=>?_,by omega,aU (by rw [h2] at q;exact q)⟩
   obtain ⟨s,hs,e⟩:=h3 n hn
   exact hb s hs n e
  ·rw [h1]
   simp! only [bK,bJ,cQ,bQ,bW,bV]
   exact aU (by rw [h2] at q;exact q)
def dA (t:Tr) (p:List Nat):Nat->List Tl->List Ld
 | _,[]=>[]
 | k,tl :: r=>(if cJ tl.pt t then [⟨k,tl.cls,tl.cost,(gF tl.pt).map fun e=>(p++e.1,e.2)⟩] else [])++dA t p (k + 1) r
theorem A9 (t:Tr) (p:List Nat) (tl:Tl):∀ (l:List Tl) (k:Nat),dA t p k (l++[tl])=dA t p k l++(if cJ tl.pt t then [⟨k + l.length,tl.cls,tl.cost,(gF tl.pt).map fun e=>(p++e.1,e.2)⟩] else [])
 | [],k=>by simp [dA]
 | a :: l,k=>by
  rw [List.cons_append]
  simp only [dA]
  rw [A9 t p tl l (k + 1),List.append_assoc,List.length_cons,show k + 1 + l.length=k + (l.length + 1) by omega]
theorem xI (t:Tr) (p:List Nat):∀ (l:List Tl) (k:Nat),(dA t p k l).length<=l.length
 | [],k=>by simp [dA]
 | a :: l,k=>by
  have:=xI t p l (k + 1)
  simp only [dA,List.length_append,List.length_cons]
  split <;> simp <;> omega
def Bh:dC:=fun us M Q=>∃ (cs:List Str) (tls:List Tl) (t t':Tr) (p:List Nat),us=[iD cs tls,t.toU,aN p]/\jF t.toU p=some t'.toU/\(∀ tl∈tls,tl.pt.dep<=6)/\tls.length<=39/\p.length<=1000/\Q (.lst ((dA t' p 0 tls).map Ld.toU)) M
theorem DO (F:cZ K "tiles_at" "tiles_at" tP f fd) (hm:mg "tiles_at"=some (.ref f)) (cD:mg "enumerate"=none) (GN:Callee P w K mg base 3 "tree_at" zF []) (Df:Callee P w K mg base 9 "lies" (vH 6) []) (Mv:Callee P w K mg base 8 "holes" D8 []):Callee P w K mg base 10 "tiles_at" Bh []:=by
 refine bT F hm jJ (wJ fun _ _ _ _ _ _ _ _ _=>rfl) (aD (aR 3 jJ.nd (aM GN (aA (uv 1) (aA (uv 2) aB))))
 (aD (aR 4 jJ.nd (cR (own:=true) aB))
 (aD (eB (o9 cD (aA (aQ (uv 0) aI) aB)) (iH (n:=2) (bM (aZ (k:=1000) 5 jJ.nd) (bM (aZ (k:=1000) 6 jJ.nd) fK)))
 (aG (bR (k6 (aM Df (aA (aQ (uv 6) aI) (aA (uv 3) aB))))
 (aD (vJ 7 jJ.nd false ["below","cls","place"] 2 [2] (eX (aM Mv (aA (aQ (uv 6) aI) aB))) (iH (n:=2) (bM (aZ (k:=2) 0 (by dsimp only [b8];decide +kernel)) (bM (aZ (k:=2) 1 (by dsimp only [b8];decide +kernel)) fK))) jH (bG (aA (cX (own:=false) (uv 2) (uv 0)) (aA (uv 1) aB))))
 (aG (lQ (p8 (uv 4) (aA (bG (aA (uv 5) (aA (aQ (uv 6) aI) (aA (aQ (uv 6) aI) (aA (uv 7) aB))))) aB)))))
 bC)))
 (aG (aW (uv 4)))))) ?_
 rintro us M Q ⟨cs,tls,t,t',p,rfl,hat,hdep,hlen,hpl,q⟩
 refine ⟨rfl,?_⟩
 refine aE fun V hV=>?_
 simp! only [bA,hName,bK,bJ,cQ,bQ,bW,bV]
 refine ⟨t.toU,t'.toU,p,rfl,hat,?_⟩
 subst hV
 refine aE fun V hV=>?_
 simp! only [bA,hName,bK,bJ,cQ,bQ,bW,bV]
 intro r hr
 subst hV
 refine aE fun V hV=>?_
 refine eS (S:=⟨none,numbered (tls.map Tl.toU)⟩) (M1:=mup M r (.lst [])) (fun R r'=>by simp! only [jY,bK,bJ,cQ,bQ,bW,bV];exact r')
  (fun i τ Mi=>∃ z5 z6 z7:Option U,τ=[some (iD cs tls),some t.toU,some (aN p),some t'.toU,some (.ref r),z5,z6,z7]/\Mi=mup M r (.lst ((dA t' p 0 (tls.take i)).map Ld.toU))) ⟨none,none,none,rfl,rfl⟩ nk ?_ ?_
 ·rintro i x τ Mi e ⟨z5,z6,z7,rfl,rfl⟩
  obtain ⟨u,hu,rfl⟩:=kA e
  rw [List.getElem?_map] at hu
  cases hj:tls[i]? with
  | none=>rw [hj] at hu;cases hu
  | some tl =>
   rw [hj] at hu
   cases hu
   have hi:=(List.getElem?_eq_some_iff.mp hj).1
   have hd:=hdep tl (List.mem_of_getElem? hj)
   have hh:=EO tl.pt hd
   have hnext:dA t' p 0 (tls.take (i + 1))=dA t' p 0 (tls.take i)++(if cJ tl.pt t' then [⟨i,tl.cls,tl.cost,(gF tl.pt).map fun e=>(p++e.1,e.2)⟩] else []):=by
    rw [List.take_add_one,hj]
    have:=A9 t' p tl (tls.take i) 0
    rw [List.length_take,Nat.min_eq_left (Nat.le_of_lt hi),Nat.zero_add] at this
    exact this
   refine ⟨rfl,?_⟩
   simp! only [gB,eT,iC,hName,bK,bJ,cQ,bQ,bW,bV]
   refine bD fun A B hA hB=>?_
   simp! only [p9,bK,bJ,cQ,bQ,bW,bV]
   refine ⟨tl.pt,t',rfl,hd,?_⟩
   cases hl:cJ tl.pt t' with
   | false =>
    rw [hl] at hnext
    simp only [Bool.false_eq_true,if_false,List.append_nil] at hnext
    simp only [oG,Bool.false_eq_true,if_false]
    subst hB
    simp only [bF]
    exact ⟨_,_,_,rfl,by rw [hnext]⟩
   | true =>
    rw [hl] at hnext
    simp only [if_true] at hnext
    simp only [oG,if_true]
    subst hA
    refine aE fun V1 hV1=>?_
    refine dX (S:=⟨none,(gF tl.pt).map cV⟩) (M1:=mup M r (.lst ((dA t' p 0 (tls.take i)).map Ld.toU))) (((gF tl.pt).map fun e=>(p++e.1,e.2)).map cV) (fun R r'=>by simp! only [p9,bK,bJ,cQ,bQ,bW,bV];exact ⟨tl.pt,rfl,hd,r'⟩) (by simp) (small (by show ((gF tl.pt).map cV).length<=_;rw [List.length_map];omega)) (fun a e=>by cases e) ?_ ?_
    ·intro j x y hx hy M' hS R r'
     have hx':((gF tl.pt).map cV)[j]?=some x:=hx
     rw [List.getElem?_map] at hx' hy
     rw [List.getElem?_map] at hy
     cases hj':(gF tl.pt)[j]? with
     | none=>rw [hj'] at hx';cases hx'
     | some e' =>
      rw [hj'] at hx' hy
      cases hx';cases hy
      have hsh:e'.1.length<=1000:=by
       have h1:=(List.mem_of_getElem? hj')
       have h2:e'.1∈tl.pt.places:=by
        obtain ⟨y,hy1,hy2⟩:=List.mem_filterMap.mp h1
        have h3:y.1∈(bN tl.pt []).map (·.1):=List.mem_map.mpr ⟨y,hy1,rfl⟩
        rw [jL] at h3
        have h4:y.1=e'.1:=by
         obtain ⟨y1,y2⟩:=y
         cases y2 <;> simp [hF] at hy2
         rw [<- hy2]
        rw [h4] at h3
        simpa using h3
       have:=kZ tl.pt e'.1 h2
       omega
      simp! only [cV,aN,gB,eT,iC,hName,bK,bJ,cQ,bQ,bW,bV]
      refine ⟨small (by rw [List.length_map,List.length_map];omega),?_⟩
      rw [<- List.map_append]
      exact r'
    ·simp! only [hName,bK,bJ,cQ,bQ,bW,bV]
     subst hV1
     simp! only [hZ,p9,bK,bJ,cQ,bQ,bW,bV]
     have hll:=xI t' p (tls.take i) 0
     rw [List.length_take] at hll
     refine ⟨AG,big (by rw [List.length_map];omega),_,_,_,rfl,?_⟩
     rw [hnext,List.map_append]
     rfl
 ·rintro τ Mi ⟨z5,z6,z7,rfl,rfl⟩
  rw [kC,List.length_map,List.take_length]
  subst hV
  simp! only [bS,bK,bJ,cQ,bQ,bW,bV]
  exact ⟨_,M,(Sub.refl M).mup hr,.inr ⟨r,_,rfl,aH,hr,rfl⟩,q⟩
theorem sU {M:aF} {a b:Addr} {x y:MO} (h:a≠b):mup (mup M a x) b y=mup (mup M b y) a x:=by
 funext z
 by_cases e1:z=a
 ·subst e1;rw [aO h,aH,aH]
 ·by_cases e2:z=b
  ·subst e2;rw [aH,aO e1,aH]
  ·rw [aO e2,aO e1,aO e1,aO e2]
structure Ap (v c p1 p2:Addr):Prop where
 vc:v≠c
 v1:v≠p1
 v2:v≠p2
 c1:c≠p1
 c2:c≠p2
 p12:p1≠p2
def iA (M:aF) (v c p1 p2:Addr) (KV KC:List (List Key × U)) (m:VM) (ch:CM):aF:=mup (mup (mup (mup M v (.dT KV)) c (.dT KC)) p1 (.dK (lU m))) p2 (.dK (xK ch))
section
variable {M:aF} {v c p1 p2:Addr} {KV KC:List (List Key × U)} {m:VM} {ch:CM}
theorem BB (h:Ap v c p1 p2):iA M v c p1 p2 KV KC m ch v=some (.dT KV):=by unfold iA;rw [aO h.v2,aO h.v1,aO h.vc,aH]
theorem Lg (h:Ap v c p1 p2):iA M v c p1 p2 KV KC m ch c=some (.dT KC):=by unfold iA;rw [aO h.c2,aO h.c1,aH]
theorem yF (h:Ap v c p1 p2):iA M v c p1 p2 KV KC m ch p1=some (.dK (lU m)):=by unfold iA;rw [aO h.p12,aH]
theorem Lb:iA M v c p1 p2 KV KC m ch p2=some (.dK (xK ch)):=aH
theorem JX (h:Ap v c p1 p2) {m':VM}:mup (iA M v c p1 p2 KV KC m ch) p1 (.dK (lU m'))=iA M v c p1 p2 KV KC m' ch:=by
 unfold iA;rw [<- sU h.p12,bX]
theorem K3 {ch':CM}:mup (iA M v c p1 p2 KV KC m ch) p2 (.dK (xK ch'))=iA M v c p1 p2 KV KC m ch':=by unfold iA;rw [bX]
end
def K2 (kvs:List (Key × U)):VM:=kvs.filterMap fun e=>match e with
 | (.inr c,.int v)=>some (c,v)
 | _=>none
theorem IM (m:VM):K2 (lU m)=m:=by
 induction m with
 | nil=>rfl
 | cons e m ih=>simp only [lU,K2,List.map_cons,List.filterMap_cons] at ih ⊢;rw [ih]
def N9 (B:Nat) (cs:List Str) (p1:Addr) (τ:SU) (M:aF):Nat:=2 * (match M p1 with | some (.dK kvs)=>mu B cs (K2 kvs) | _=>0) + (match τ[5]? with | some (some (.bl true))=>1 | _=>0)
def Em (fj:Addr):dC:=fun us M Q=>∃ (ls:List Ld) (p:List Nat) (v c:Addr) (vs:VS) (chs:CS) (cs:List Str) (sz:Nat),us=[.lst (ls.map Ld.toU),aN p,.ref v,.ref c,.ref fj]/\v≠c/\M v=some (.dT (jX vs))/\M c=some (.dT (kR chs))/\asc vs p=none/\asc chs p=none/\vs.length<=1000/\chs.length<=1000/\ls.length<=1000/\Ei vs/\cs.length<=6/\1<=sz/\sz<=1000/\(∀ l∈ls,AU cs vs p sz l) /\
 ∀ (p1 p2:Addr) (m:VM) (ch:CM),M p1=none->M p2=none->p1≠p2->vF cs vs p sz ls m ch->Q .non (iA M v c p1 p2 (jX vs++[(pk p,.ref p1)]) (kR chs++[(pk p,.ref p2)]) m ch)
theorem Kr {fj:Addr} (F:cZ K "fill_least" "fill_least" pS f fd) (hm:mg "fill_least"=some (.ref f)) (hNK:jS K) (CJ:Callee P w K mg base 2 "join_spots" (II fj) []):Callee P w K mg base 3 "fill_least" (Em fj) []:=by
 refine bT F hm dW (Q0 fun _ _ _ _ _ _ _ _ _ _ _=>rfl) (aD (vN true (fun _=>hNK) (wA false) (uv 2) (uv 1))
 (aD (vN true (fun _=>hNK) (wA false) (uv 3) (uv 1))
 (aD (aR 5 dW.nd l8)
 (aG (IQ (k6 (uv 5))
 (aD (aR 5 dW.nd l8)
 (aG (eB (eX (uv 0)) (iH (n:=4) (bM (aZ (k:=1000) 6 dW.nd) (bM (aZ (k:=1000) 7 dW.nd) (bM (aZ (k:=1000) 8 dW.nd) (bM (aZ (k:=1000) 9 dW.nd) fK)))))
 (aD (aR 10 dW.nd (aM CJ (aA (uv 8) (aA (uv 9) (aA (uv 2) (aA (uv 4) aB))))))
 (aG (bR (kS.pt (rO (bU rK (uv 10) nH) (oH (kS.pt (l0 (bU (Ju false Ad) (uv 7) (iR true (fun _=>hNK) (uv 2) (uv 1))) (nD (bU t4 (uv 10) (iR false Ad (iR true (fun _=>hNK) (uv 2) (uv 1)) (uv 7)))))))))
 (aD (vN false Ad (uv 10) (iR true (fun _=>hNK) (uv 2) (uv 1)) (uv 7))
 (aD (vN false Ad (bG (aA (uv 6) (aA (uv 9) aB))) (iR true (fun _=>hNK) (uv 3) (uv 1)) (uv 7))
 (aG (aR 5 dW.nd l8))))
 bC))))))))))) ?_
 rintro us M Q ⟨ls,p,v,c,vs,chs,cs,sz,rfl,hvc,hMv,hMc,hvp,hcp,hvl,hcl,hll,hlow,h6,hs1,hs2,hok,q⟩
 refine ⟨rfl,?_⟩
 have vs0:cU (jX vs) (pk p)=none:=by rw [FR,hvp];rfl
 have cs0:cU (kR chs) (pk p)=none:=by rw [Qz,hcp];rfl
 refine aE fun V hV=>?_
 simp! only [zW,bK,bJ,cQ,bQ,bW,bV]
 intro p1 hp1
 have hv1:v≠p1:=fun z=>by subst z;rw [hMv] at hp1;cases hp1
 have hc1:c≠p1:=fun z=>by subst z;rw [hMc] at hp1;cases hp1
 simp only [IG,aO hv1,hMv,aN,rN,Bool.false_eq_true,if_false]
 refine ⟨big (by rw [jX,List.length_map];omega),?_⟩
 rw [uH vs0]
 subst hV
 refine aE fun V hV=>?_
 simp! only [zW,bK,bJ,cQ,bQ,bW,bV]
 intro p2 hp2
 have hp21:p2≠p1:=fun z=>by subst z;rw [aO (fun e=>hv1 e.symm),aH] at hp2;cases hp2
 have hp2v:p2≠v:=fun z=>by subst z;rw [aH] at hp2;cases hp2
 rw [aO hp2v,aO hp21] at hp2
 have hp2c:p2≠c:=fun z=>by subst z;rw [hMc] at hp2;cases hp2
 simp only [IG,aO (fun e=>hp2c e.symm:c≠p2),aO (fun e=>hvc e.symm:c≠v),aO hc1,hMc,aN,rN,Bool.false_eq_true,if_false]
 refine ⟨big (by rw [kR,List.length_map];omega),?_⟩
 rw [uH cs0]
 have ap:Ap v c p1 p2:=⟨hvc,hv1,fun e=>hp2v e.symm,hc1,fun e=>hp2c e.symm,fun e=>hp21 e.symm⟩
 have e0:mup (mup (mup (mup M p1 (.dK [])) v (.dT (jX vs++[(pk p,.ref p1)]))) p2 (.dK [])) c (.dT (kR chs++[(pk p,.ref p2)]))=iA M v c p1 p2 (jX vs++[(pk p,.ref p1)]) (kR chs++[(pk p,.ref p2)]) [] []:=by
  unfold iA
  show _=mup (mup (mup (mup M v _) c _) p1 (.dK [])) p2 (.dK [])
  rw [sU (a:=p2) (b:=c) (fun e=>ap.c2 e.symm),sU (a:=p1) (b:=v) (fun e=>ap.v1 e.symm),sU (a:=p1) (b:=c) (fun e=>ap.c1 e.symm)]
 rw [e0]
 have q2:=fun m ch=>q p1 p2 m ch hp1 hp2 ap.p12
 generalize hKV:jX vs++[(pk p,U.ref p1)]=KV at *
 generalize hKC:kR chs++[(pk p,U.ref p2)]=KC at *
 have hKVp:cU KV (pk p)=some (.ref p1):=by
  rw [<- hKV,sA,vs0];exact jV (p:=(pk p,U.ref p1)) rfl
 have hKCp:cU KC (pk p)=some (.ref p2):=by
  rw [<- hKC,sA,cs0];exact jV (p:=(pk p,U.ref p2)) rfl
 have vals:∀ (m:VM) (ch:CM) (s:List Nat × Str),(s.1=p\/(asc vs s.1).isSome=true)->BA (iA M v c p1 p2 KV KC m ch) v (cur vs p m) s:=by
  intro m ch s hs
  by_cases e:s.1=p
  ·refine ⟨KV,.ref p1,lU m,BB ap,by rw [e];exact hKVp,yF ap,?_⟩
   unfold cur;rw [if_pos e];exact zC m s.2
  ·have h2:=hs.resolve_left e
   obtain ⟨m2,hm2⟩:=Option.isSome_iff_exists.mp h2
   refine ⟨KV,mK m2,lU m2,BB ap,?_,BZ m2,?_⟩
   ·rw [<- hKV,sA,FR,hm2];rfl
   ·unfold cur aY;rw [if_neg e,hm2];exact zC m2 s.2
 subst hV
 refine aE fun V hV=>?_
 simp! only [bA,hName,bK,bJ,cQ,bQ,bW,bV]
 subst hV
 refine Jz (fun τ Mi=>∃ (m:VM) (ch:CM) (low:Bool) (z6 z7 z8 z9 z10:Option U),τ=[some (.lst (ls.map Ld.toU)),some (aN p),some (.ref v),some (.ref c),some (.ref fj),some (.bl low),z6,z7,z8,z9,z10]/\Mi=iA M v c p1 p2 KV KC m ch/\J cs vs p sz ls m ch/\(low=false->Fix vs p ls m)) (N9 (6000 * sz + 1) cs p1)
  ⟨[],[],true,none,none,none,none,none,rfl,rfl,J.nil,fun h=>by cases h⟩ ?_
 rintro τ Mi ⟨m,ch,low,z6,z7,z8,z9,z10,rfl,rfl,j,hfix⟩
 have hmea:∀ (m':VM) (ch':CM) (b:Bool) (y6 y7 y8 y9 y10:Option U),N9 (6000 * sz + 1) cs p1 [some (.lst (ls.map Ld.toU)),some (aN p),some (.ref v),some (.ref c),some (.ref fj),some (.bl b),y6,y7,y8,y9,y10] (iA M v c p1 p2 KV KC m' ch')=2 * mu (6000 * sz + 1) cs m' + (if b then 1 else 0):=by
  intro m' ch' b y6 y7 y8 y9 y10
  unfold N9
  rw [yF ap]
  simp only [IM]
  cases b <;> rfl
 simp! only [bK,bJ,cQ,bQ,bW,bV]
 cases low with
 | false =>
  simp only [Bool.false_eq_true,if_false]
  exact aU (q2 m ch (j.fill h6 (hfix rfl)))
 | true =>
  simp only [if_true]
  refine aE fun V hV=>?_
  simp! only [bA,hName,bK,bJ,cQ,bQ,bW,bV]
  subst hV
  refine eS (S:=⟨none,ls.map Ld.toU⟩) (M1:=iA M v c p1 p2 KV KC m ch) (fun R r=>by simp! only [bK,bJ,cQ,bQ,bW,bV];exact r)
   (fun i τ Mi=>∃ (m':VM) (ch':CM) (low:Bool) (z6 z7 z8 z9 z10:Option U),τ=[some (.lst (ls.map Ld.toU)),some (aN p),some (.ref v),some (.ref c),some (.ref fj),some (.bl low),z6,z7,z8,z9,z10]/\Mi=iA M v c p1 p2 KV KC m' ch'/\J cs vs p sz ls m' ch'/\(low=false->m'=m/\∀ (k:Nat) (l:Ld),k < i->ls[k]?=some l->∀ w,bO (cur vs p m') l.spots=some w->∃ v,asc m' l.cls=some v/\v<=l.price + w)/\(low=true->mu (6000 * sz + 1) cs m' < mu (6000 * sz + 1) cs m))
   ⟨m,ch,false,z6,z7,z8,z9,z10,rfl,rfl,j,(fun _=>⟨rfl,fun k l h=>by omega⟩),fun h=>by cases h⟩ nk ?_ ?_
  ·rintro i x τ Mi e ⟨m',ch',low,y6,y7,y8,y9,y10,rfl,rfl,j',hf,ht⟩
   have e':(ls.map Ld.toU)[i]?=some x:=e
   rw [List.getElem?_map] at e'
   cases hj:ls[i]? with
   | none=>rw [hj] at e';cases e'
   | some l =>
    rw [hj] at e'
    cases e'
    have hl:=List.mem_of_getElem? hj
    have ok:=hok l hl
    have h0:=j'.cur0 hlow
    have hb:∀ s a,cur vs p m' s=some a->0<=a/\a<=100000000:=fun s a h=>by
     have h2:=h
     unfold cur at h2
     split at h2
     ·have h3:=j'.just _ _ h2
      have h4:=j'.len6 h6
      exact ⟨h3.1,by have:=h3.2.1;omega⟩
     ·exact hlow _ _ h2
    generalize hPP:(fun (τ:SU) (Mi:aF)=>∃ (m':VM) (ch':CM) (low:Bool) (z6 z7 z8 z9 z10:Option U),τ=[some (.lst (ls.map Ld.toU)),some (aN p),some (.ref v),some (.ref c),some (.ref fj),some (.bl low),z6,z7,z8,z9,z10]/\Mi=iA M v c p1 p2 KV KC m' ch'/\J cs vs p sz ls m' ch'/\(low=false->m'=m/\∀ (k:Nat) (l:Ld),k < i + 1->ls[k]?=some l->∀ w,bO (cur vs p m') l.spots=some w->∃ v,asc m' l.cls=some v/\v<=l.price + w)/\(low=true->mu (6000 * sz + 1) cs m' < mu (6000 * sz + 1) cs m))=PP
    have stay:∀ z:Option U,(∀ w,bO (cur vs p m') l.spots=some w->∃ v,asc m' l.cls=some v/\v<=l.price + w)->PP [some (.lst (ls.map Ld.toU)),some (aN p),some (.ref v),some (.ref c),some (.ref fj),some (.bl low),some (.int l.n),some (.str l.cls),some (.int l.price),some (.lst (l.spots.map cV)),z] (iA M v c p1 p2 KV KC m' ch'):=by
     intro z hz
     rw [<- hPP]
     refine ⟨m',ch',low,_,_,_,_,_,rfl,rfl,j',fun h=>⟨(hf h).1,fun k l' hk hk2=>?_⟩,ht⟩
     by_cases hki:k=i
     ·subst hki;rw [hj] at hk2;cases hk2;exact hz
     ·exact (hf h).2 k l' (by omega) hk2
    refine ⟨rfl,?_⟩
    simp! only [gB,eT,iC,hName,bK,bJ,cQ,bQ,bW,bV]
    refine aE fun V1 hV1=>?_
    simp! only [bA,hName,bK,bJ,cQ,bQ,bW,bV]
    refine ⟨l.price,l.spots,v,cur vs p m',rfl,ok.len,fun s hs=>vals m' ch' s (ok.there s hs),fun s _ a ha=>hb s a ha,?_⟩
    subst hV1
    refine bD fun A B hA hB=>?_
    cases hw:bO (cur vs p m') l.spots with
    | none =>
     simp! only [Fh,bK,bJ,cQ,bQ,bW,bV]
     subst hB
     simp only [bF]
     exact stay _ fun w h=>by rw [hw] at h;cases h
    | some wv =>
     have lk1:fF true (iA M v c p1 p2 KV KC m' ch') (.ref v) (aN p)=some (some (.ref p1)):=by rw [CV p (BB ap),hKVp]
     have lk2:fF false (iA M v c p1 p2 KV KC m' ch') (.ref p1) (.str l.cls)=some ((asc m' l.cls).map U.int):=by have hd:iZ (iA M v c p1 p2 KV KC m' ch') (.ref p1)=some (.dK (lU m')):=yF ap;rw [CW l.cls hd,zC]
     have yes:(∀ v,asc m' l.cls=some v->l.price + wv < v)->A (iA M v c p1 p2 KV KC m' ch'):=by
      intro hlt
      have j2:=j'.step hlow hl ok hw hlt
      have jl:=j'.low hlow hl ok h6 hs1 hw hlt
      have jl6:=j'.len6 h6
      have jc6:ch'.length=m'.length:=by have:=congrArg List.length j'.keys;simpa using this.symm
      subst hA
      refine aE fun V2 hV2=>?_
      simp! only [zW,hw,Fh,lk1,nP,yF ap,bK,bJ,cQ,bQ,bW,bV]
      refine ⟨big (by rw [lU,List.length_map];omega),?_⟩
      rw [Ml,JX ap]
      subst hV2
      refine aE fun V2 hV2=>?_
      have lk3:fF true (iA M v c p1 p2 KV KC (jO m' l.cls (l.price + wv)) ch') (.ref c) (aN p)=some (some (.ref p2)):=by rw [CV p (Lg ap),hKCp]
      simp! only [zW,lk3,nP,Lb,bK,bJ,cQ,bQ,bW,bV]
      refine ⟨big (by rw [xK,List.length_map];omega),?_⟩
      have ec:U.tup [U.int l.n,U.lst (l.spots.map cV)]=D6 l:=rfl
      rw [ec,L8,K3]
      subst hV2
      simp! only [bA,hName,bK,bJ,cQ,bQ,bW,bV]
      rw [<- hPP]
      refine ⟨_,_,true,_,_,_,_,_,rfl,rfl,j2,(fun h=>by cases h),fun _=>?_⟩
      cases low with
      | true=>have:=ht rfl;omega
      | false=>have:=(hf rfl).1;subst this;exact jl
     simp! only [Fh,lk1,lk2,bK,bJ,cQ,bQ,bW,bV]
     cases hm':asc m' l.cls with
     | none =>
      simp! only [Option.map_none,Option.isSome_none,bK,bJ,cQ,bQ,bW,bV]
      exact yes fun v h=>by rw [hm'] at h;cases h
     | some old =>
      simp! only [Option.map_some,Option.isSome_some,lk1,lk2,hm',bK,bJ,cQ,bQ,bW,bV]
      refine fS (fun hlt=>?_) (fun hge=>?_)
      ·exact yes fun v h=>by rw [hm'] at h;cases h;simpa using hlt
      ·subst hB
       simp only [bF]
       refine stay _ fun w h=>?_
       rw [hw] at h;cases h
       have:¬ l.price + wv < old:=by simpa using hge
       exact ⟨old,hm',by omega⟩
  ·rintro τ Mi ⟨m',ch',low,y6,y7,y8,y9,y10,rfl,rfl,j',hf,ht⟩
   have hlen:(Src.mk none (ls.map Ld.toU)).xs.length=ls.length:=by show (ls.map Ld.toU).length=_;rw [List.length_map]
   rw [hlen] at hf
   refine ⟨⟨m',ch',low,_,_,_,_,_,rfl,rfl,j',fun h l hl w hw=>?_⟩,?_⟩
   ·obtain ⟨k,hk⟩:=List.getElem?_of_mem hl
    exact (hf h).2 k l (List.getElem?_eq_some_iff.mp hk).1 hk w hw
   ·rw [hmea,hmea]
    cases low with
    | true=>have:=ht rfl;simp only [if_true];omega
    | false=>have:=(hf rfl).1;subst this;simp only [if_true,Bool.false_eq_true,if_false];omega
def Tr.at:Tr->List Nat->Option Tr
 | t,[]=>some t
 | .turn a,0 :: r=>a.at r
 | .two _ a _,0 :: r=>a.at r
 | .two _ _ b,1 :: r=>b.at r
 | _,_=>none
theorem yM (t:Tr):t.at []=some t:=by cases t <;> rfl
theorem tW:∀ (t:Tr) (p:List Nat),p∈t.places->∃ t',t.at p=some t'
 | .turn a,p,h=>by
  simp only [Tr.places,List.mem_cons,List.mem_map] at h
  rcases h with rfl | ⟨q,hq,rfl⟩
  ·exact ⟨_,rfl⟩
  ·exact tW a q hq
 | .two o a b,p,h=>by
  simp only [Tr.places,List.mem_cons,List.mem_append,List.mem_map] at h
  rcases h with rfl | ⟨q,hq,rfl⟩ | ⟨q,hq,rfl⟩
  ·exact ⟨_,rfl⟩
  ·exact tW a q hq
  ·exact tW b q hq
 | .num _,p,h=>by simp [Tr.places] at h;subst h;exact ⟨_,rfl⟩
 | .name _,p,h=>by simp [Tr.places] at h;subst h;exact ⟨_,rfl⟩
theorem iL:∀ (t:Tr) (p:List Nat) (t':Tr),t.at p=some t'->p∈t.places
 | .turn a,[],_,_=>by simp [Tr.places]
 | .two _ a b,[],_,_=>by simp [Tr.places]
 | .num _,[],_,_=>by simp [Tr.places]
 | .name _,[],_,_=>by simp [Tr.places]
 | .turn a,0 :: r,t',h=>by
  have:=iL a r t' h
  simp only [Tr.places,List.mem_cons,List.mem_map]
  exact .inr ⟨r,this,rfl⟩
 | .two _ a b,0 :: r,t',h=>by
  have:=iL a r t' h
  simp only [Tr.places,List.mem_cons,List.mem_append,List.mem_map]
  exact .inr (.inl ⟨r,this,rfl⟩)
 | .two _ a b,1 :: r,t',h=>by
  have:=iL b r t' h
  simp only [Tr.places,List.mem_cons,List.mem_append,List.mem_map]
  exact .inr (.inr ⟨r,this,rfl⟩)
 | .turn _,(n + 1) :: r,_,h=>by simp [Tr.at] at h
 | .two _ _ _,(n + 2) :: r,_,h=>by simp [Tr.at] at h
 | .num _,n :: r,_,h=>by simp [Tr.at] at h
 | .name _,n :: r,_,h=>by simp [Tr.at] at h
theorem yD:∀ (t:Tr) (p:List Nat) (t':Tr),t.at p=some t'->jF t.toU p=some t'.toU
 | t,[],t',h=>by rw [yM] at h;cases h;rfl
 | .turn a,0 :: r,t',h=>by simp only [jF,Tr.toU,AS,Option.bind_some];exact yD a r t' h
 | .two _ a b,0 :: r,t',h=>by simp only [jF,Tr.toU,AH,Option.bind_some];exact yD a r t' h
 | .two _ a b,1 :: r,t',h=>by simp only [jF,Tr.toU,AM,Option.bind_some];exact yD b r t' h
 | .turn _,(n + 1) :: r,_,h=>by simp [Tr.at] at h
 | .two _ _ _,(n + 2) :: r,_,h=>by simp [Tr.at] at h
 | .num _,n :: r,_,h=>by simp [Tr.at] at h
 | .name _,n :: r,_,h=>by simp [Tr.at] at h
theorem nF:∀ (t:Tr) (p e:List Nat) (t':Tr),t.at p=some t'->t.at (p++e)=t'.at e
 | t,[],e,t',h=>by rw [yM] at h;cases h;rfl
 | .turn a,0 :: r,e,t',h=>nF a r e t' h
 | .two _ a b,0 :: r,e,t',h=>nF a r e t' h
 | .two _ a b,1 :: r,e,t',h=>nF b r e t' h
 | .turn _,(n + 1) :: r,_,_,h=>by simp [Tr.at] at h
 | .two _ _ _,(n + 2) :: r,_,_,h=>by simp [Tr.at] at h
 | .num _,n :: r,_,_,h=>by simp [Tr.at] at h
 | .name _,n :: r,_,_,h=>by simp [Tr.at] at h
theorem rG:∀ (t:Tr) (p:List Nat) (t':Tr),t.at p=some t'->t'.size<=t.size
 | t,[],t',h=>by rw [yM] at h;cases h;omega
 | .turn a,0 :: r,t',h=>by have:=rG a r t' h;simp only [Tr.size];omega
 | .two _ a b,0 :: r,t',h=>by have:=rG a r t' h;simp only [Tr.size];omega
 | .two _ a b,1 :: r,t',h=>by have:=rG b r t' h;simp only [Tr.size];omega
 | .turn _,(n + 1) :: r,_,h=>by simp [Tr.at] at h
 | .two _ _ _,(n + 2) :: r,_,h=>by simp [Tr.at] at h
 | .num _,n :: r,_,h=>by simp [Tr.at] at h
 | .name _,n :: r,_,h=>by simp [Tr.at] at h
theorem jB:∀ t:Tr,t.places.Pairwise fun x y=>¬ y <+: x
 | .turn a=>by
  simp only [Tr.places]
  refine List.pairwise_cons.mpr ⟨fun y hy=>?_,?_⟩
  ·obtain ⟨q,_,rfl⟩:=List.mem_map.mp hy;simp
  ·rw [List.pairwise_map]
   refine (jB a).imp fun {x y} h h2=>h ?_
   simpa using h2
 | .two o a b=>by
  simp only [Tr.places]
  refine List.pairwise_cons.mpr ⟨fun y hy=>?_,?_⟩
  ·rcases List.mem_append.mp hy with hy | hy
   ·obtain ⟨q,_,rfl⟩:=List.mem_map.mp hy;simp
   ·obtain ⟨q,_,rfl⟩:=List.mem_map.mp hy;simp
  ·refine List.pairwise_append.mpr ⟨?_,?_,fun x hx y hy=>?_⟩
   ·rw [List.pairwise_map]
    refine (jB a).imp fun {x y} h h2=>h ?_
    simpa using h2
   ·rw [List.pairwise_map]
    refine (jB b).imp fun {x y} h h2=>h ?_
    simpa using h2
   ·obtain ⟨q,_,rfl⟩:=List.mem_map.mp hx
    obtain ⟨q',_,rfl⟩:=List.mem_map.mp hy
    simp
 | .num _=>by simp [Tr.places]
 | .name _=>by simp [Tr.places]
def oD:Pt->Nat
 | .hole _=>0
 | .any=>1
 | .fr _ _=>1
 | .turn a=>1 + oD a
 | .two _ a b=>1 + (oD a + oD b)
theorem pP:∀ (pt:Pt) (t:Tr) (pre:List Nat),cJ pt t=true->∃ bs:List Nat,bs.length=((bN pt pre).filterMap hF).length/\bs.sum + oD pt=t.size/\∀ (i:Nat) (e:List Nat × Str) (b:Nat),((bN pt pre).filterMap hF)[i]?=some e->bs[i]?=some b->∃ s t',e.1=pre++s/\t.at s=some t'/\t'.size=b/\(s=[]->∃ c,pt=.hole c)/\(j4 pt t)[i]?=some (t',e.2)
 | .hole c,t,pre,_=>⟨[t.size],rfl,by simp [oD],fun i e b h1 h2=>by
   match i,h1,h2 with
   | 0,h1,h2=>cases h1;cases h2;exact ⟨[],t,by simp,yM t,rfl,fun _=>⟨c,rfl⟩,by cases t <;> rfl⟩
   | i + 1,h1,h2=>cases h1⟩
 | .any,.name x,pre,_=>⟨[],rfl,rfl,fun i e b h1 h2=>by cases h1⟩
 | .fr l h,.num n,pre,_=>⟨[],rfl,rfl,fun i e b h1 h2=>by cases h1⟩
 | .turn p,.turn a,pre,hl=>by
  obtain ⟨bs,h1,h2,h3⟩:=pP p a (pre++[0]) hl
  refine ⟨bs,by simp only [bN,List.filterMap_cons,hF];exact h1,by simp only [oD,Tr.size];omega,fun i e b he hb=>?_⟩
  simp only [bN,List.filterMap_cons,hF] at he
  obtain ⟨s,t',e1,e2,e3,_,e5⟩:=h3 i e b he hb
  exact ⟨0 :: s,t',by rw [e1];simp,e2,e3,(fun z=>by cases z),e5⟩
 | .two o p q,.two o' a b,pre,hl=>by
  simp only [cJ,Bool.and_eq_true] at hl
  obtain ⟨ho,hl1,hl2⟩:=hl
  obtain ⟨bs,h1,h2,h3⟩:=pP p a (pre++[0]) hl1
  obtain ⟨cs,k1,k2,k3⟩:=pP q b (pre++[1]) hl2
  refine ⟨bs++cs,by simp only [bN,List.filterMap_cons,hF,List.filterMap_append,List.length_append,h1,k1],by simp only [List.sum_append,oD,Tr.size];omega,fun i e bb he hb=>?_⟩
  simp only [bN,List.filterMap_cons,hF,List.filterMap_append] at he
  rw [List.getElem?_append] at he hb
  split at he
  ·rename_i hi
   rw [if_pos (by omega)] at hb
   obtain ⟨s,t',e1,e2,e3,_,e5⟩:=h3 i e bb he hb
   have hl1':=(rE p a (pre++[0]) hl1).1
   exact ⟨0 :: s,t',by rw [e1];simp,e2,e3,(fun z=>by cases z),by simp only [j4];rw [List.getElem?_append_left (by omega)];exact e5⟩
  ·rename_i hi
   rw [if_neg (by omega),h1] at hb
   obtain ⟨s,t',e1,e2,e3,_,e5⟩:=k3 _ e bb he hb
   have hl1':=(rE p a (pre++[0]) hl1).1
   exact ⟨1 :: s,t',by rw [e1];simp,e2,e3,(fun z=>by cases z),by simp only [j4];rw [List.getElem?_append_right (by omega),<- hl1'];exact e5⟩
 | .any,.num _,_,h=>by cases h
 | .any,.turn _,_,h=>by cases h
 | .any,.two _ _ _,_,h=>by cases h
 | .fr _ _,.name _,_,h=>by cases h
 | .fr _ _,.turn _,_,h=>by cases h
 | .fr _ _,.two _ _ _,_,h=>by cases h
 | .turn _,.num _,_,h=>by cases h
 | .turn _,.name _,_,h=>by cases h
 | .turn _,.two _ _ _,_,h=>by cases h
 | .two _ _ _,.num _,_,h=>by cases h
 | .two _ _ _,.name _,_,h=>by cases h
 | .two _ _ _,.turn _,_,h=>by cases h
theorem EJ {σ:Type} {g:σ->Option Int}:∀ {l:List σ} {bs:List Nat} {w:Int},bs.length=l.length->(∀ (i:Nat) s b,l[i]?=some s->bs[i]?=some b->∀ a,g s=some a->a<=6000 * (b:Int))->bO g l=some w->w<=6000 * (bs.sum:Int)
 | [],[],w,_,_,h=>by cases h;simp
 | [],_ :: _,_,h,_,_=>by cases h
 | _ :: _,[],_,h,_,_=>by cases h
 | s :: l,b :: bs,w,hl,hb,h=>by
  obtain ⟨a,c,h1,h2,rfl⟩:=iF h
  have k1:=hb 0 s b rfl rfl a h1
  have k2:=EJ (l:=l) (bs:=bs) (by simpa using hl) (fun i s b h1 h2=>hb (i + 1) s b h1 h2) h2
  rw [List.sum_cons]
  push_cast
  omega
inductive Bd (t:Tr) (tls:List Tl) (cs:List Str):List (List Nat)->VS->CS->Prop
 | nil:Bd t tls cs [] [] []
 | snoc {ps:List (List Nat)} {vs:VS} {chs:CS} {p:List Nat} {t':Tr} {m:VM} {ch:CM} (b:Bd t tls cs ps vs chs) (hp:p ∉ ps) (ht:t.at p=some t') (hf:vF cs vs p t'.size (dA t' p 0 tls) m ch):Bd t tls cs (ps++[p]) (vs++[(p,m)]) (chs++[(p,ch)])
section
variable {t:Tr} {tls:List Tl} {cs:List Str} {ps:List (List Nat)} {vs:VS} {chs:CS}
theorem Bd.keysV (b:Bd t tls cs ps vs chs):vs.map (·.1)=ps:=by
 induction b with
 | nil=>rfl
 | snoc b hp ht hf ih=>rw [List.map_append,ih];rfl
theorem Bd.keysC (b:Bd t tls cs ps vs chs):chs.map (·.1)=ps:=by
 induction b with
 | nil=>rfl
 | snoc b hp ht hf ih=>rw [List.map_append,ih];rfl
theorem Bd.lenV (b:Bd t tls cs ps vs chs):vs.length=ps.length:=by rw [<- b.keysV,List.length_map]
theorem Bd.lenC (b:Bd t tls cs ps vs chs):chs.length=ps.length:=by rw [<- b.keysC,List.length_map]
theorem Bd.noV (b:Bd t tls cs ps vs chs) {p:List Nat} (h:p ∉ ps):asc vs p=none:=by rw [Ck,b.keysV];exact h
theorem Bd.noC (b:Bd t tls cs ps vs chs) {p:List Nat} (h:p ∉ ps):asc chs p=none:=by rw [Ck,b.keysC];exact h
theorem Bd.val (b:Bd t tls cs ps vs chs):∀ s v,aY vs s=some v->∃ t',t.at s.1=some t'/\0<=v/\v<=6000 * t'.size:=by
 induction b with
 | nil=>intro s v h;cases h
 | @snoc ps vs chs p t' m ch b hp ht hf ih =>
  intro s v h
  rw [<- rY (b.noV hp)] at h
  unfold cur at h
  split at h
  ·rename_i e
   obtain ⟨h1,h2,_⟩:=hf.just _ _ h
   exact ⟨t',by rw [e];exact ht,h1,h2⟩
  ·exact ih s v h
theorem Bd.low (b:Bd t tls cs ps vs chs) (hs:t.size<=1000):Ei vs:=fun s v h=>by
 obtain ⟨t',h1,h2,h3⟩:=b.val s v h
 have:=rG t s.1 t' h1
 exact ⟨h2,by omega⟩
theorem sL {t:Tr} {p:List Nat}:∀ {tls:List Tl} {k:Nat} {l:Ld},l∈dA t p k tls->∃ (i:Nat) (tl:Tl),tls[i]?=some tl/\cJ tl.pt t=true/\l=⟨k + i,tl.cls,tl.cost,(gF tl.pt).map fun e=>(p++e.1,e.2)⟩
 | [],k,l,h=>by cases h
 | a :: r,k,l,h=>by
  simp only [dA,List.mem_append] at h
  rcases h with h | h
  ·split at h
   ·rename_i hl
    cases List.mem_singleton.mp h
    exact ⟨0,a,rfl,hl,rfl⟩
   ·cases h
  ·obtain ⟨i,tl,h1,h2,h3⟩:=sL h
   exact ⟨i + 1,tl,h1,h2,by rw [h3,show k + 1 + i=k + (i + 1) by omega]⟩
theorem Bd.ld {A B:List (List Nat)} {p:List Nat} {t':Tr} (hT:Tab cs tls) (hpl:t.places=A++p :: B) (ht:t.at p=some t') (b:Bd t tls cs B.reverse vs chs):∀ l∈dA t' p 0 tls,AU cs vs p t'.size l:=by
 intro l hl
 obtain ⟨i,tl,h1,h2,rfl⟩:=sL hl
 have hg:=hT.good tl (List.mem_of_getElem? h1)
 have hg1:tl.pt.ok:=hg.1
 have hg2:tl.pt.dep<=4:=hg.2.1
 have hg3:tl.cls∈cs:=hg.2.2.1
 have hg4:0<=tl.cost:=hg.2.2.2.1
 have hg5:tl.cost<=1000:=hg.2.2.2.2
 obtain ⟨bs,g1,g2,g3⟩:=pP tl.pt t' [] h2
 have hh:=EO tl.pt (by omega)
 have hpre:=jB t
 rw [hpl] at hpre
 have below:∀ (s:List Nat) (t2:Tr),t'.at s=some t2->s≠[]->(p++s)∈B.reverse:=fun s t2 hs hne=>by
  have hin:p++s∈t.places:=iL t _ t2 (by rw [nF t p s t' ht];exact hs)
  rw [hpl] at hin
  rcases List.mem_append.mp hin with hin | hin
  ·have:=(List.pairwise_append.mp hpre).2.2 _ hin p List.mem_cons_self
   exact absurd (List.prefix_append p s) this
  ·rcases List.mem_cons.mp hin with hin | hin
   ·exact absurd (List.append_right_eq_self.mp hin) hne
   ·exact List.mem_reverse.mpr hin
 have each:∀ (j:Nat) (e:List Nat × Str),(gF tl.pt)[j]?=some e->∃ s t2 bb,bs[j]?=some bb/\e.1=s/\t'.at s=some t2/\t2.size=bb/\(s=[]->∃ c,tl.pt=.hole c):=fun j e he=>by
  have hj:=(List.getElem?_eq_some_iff.mp he).1
  have hb:bs[j]?=some (bs[j]'(by rw [g1];exact hj)):=List.getElem?_eq_getElem _
  obtain ⟨s,t2,e1,e2,e3,e4,_⟩:=g3 j e _ he hb
  exact ⟨s,t2,_,hb,by simpa using e1,e2,e3,e4⟩
 refine ⟨hg4,hg5,hg3,by rw [List.length_map];exact hh,fun s hs=>?_,?_⟩
 ·obtain ⟨e,he,rfl⟩:=List.mem_map.mp hs
  obtain ⟨j,hj⟩:=List.getElem?_of_mem he
  obtain ⟨s,t2,bb,_,e1,e2,_⟩:=each j e hj
  rw [e1]
  by_cases hn:s=[]
  ·left;rw [hn];simp
  ·right
   rw [kI,b.keysV]
   exact below s t2 e2 hn
 ·cases hpt:tl.pt with
  | hole c=>left;exact ⟨c,by simp [gF,bN,hF]⟩
  | _ =>
   right
   have hnh:∀ c,tl.pt≠.hole c:=fun c z=>by rw [hpt] at z;cases z
   have hbk:1<=oD tl.pt:=by rw [hpt];simp [oD]
   rw [<- hpt]
   refine ⟨fun s hs=>?_,fun w hw=>?_⟩
   ·obtain ⟨e,he,rfl⟩:=List.mem_map.mp hs
    obtain ⟨j,hj⟩:=List.getElem?_of_mem he
    obtain ⟨s,t2,bb,_,e1,e2,_,e4⟩:=each j e hj
    intro z
    have z':p++e.1=p:=z
    rw [List.append_right_eq_self,e1] at z'
    obtain ⟨c,hc⟩:=e4 z'
    exact hnh c hc
   ·have:=EJ (bs:=bs) (by rw [g1,List.length_map];rfl) (fun i s bb hs hb a ha=>?_) hw
    ·omega
    ·rw [List.getElem?_map] at hs
     cases hj:(gF tl.pt)[i]? with
     | none=>rw [hj] at hs;cases hs
     | some e =>
      rw [hj] at hs
      cases hs
      obtain ⟨s,t2,bb',hb',e1,e2,e3,_⟩:=each i e hj
      rw [hb] at hb';cases hb'
      obtain ⟨t3,k1,k2,k3⟩:=b.val _ _ ha
      dsimp only at k1
      rw [e1,nF t p s t' ht,e2] at k1
      cases k1
      rw [<- e3];exact k3
end
section
variable {κ γ:Type} {H:Hp} {M1 M':aF}
theorem Au (st:aS H M1 H M') {k:κ} {u u':U} (hu:∀ x,aJ K H M1 u x->aJ K H M' u' x):∀ {xs:List (κ × U)} {ws:List (κ × V)},cO K H M1 (xs++[(k,u)]) ws->cO K H M' (xs++[(k,u')]) ws
 | [],ws,r=>by
  cases r with
  | cons h t=>cases t;exact .cons ⟨h.1,hu _ h.2⟩ .nil
 | x :: xs,ws,r=>by
  cases r with
  | cons h t=>exact .cons ⟨h.1,h.2.stp st⟩ (Au st hu t)
theorem xD {α:Type} (k:α->κ) (g:γ->U) {M:aF}:∀ {l:List (α × γ)} {ws:List (κ × V)},cO K H M (l.map fun e=>(k e.1,g e.2)) ws->l.map (fun e=>k e.1)=ws.map (·.1)/\aK K H M (l.map fun e=>g e.2) (ws.map (·.2))
 | [],ws,r=>by cases r;exact ⟨rfl,.nil⟩
 | e :: l,ws,r=>by
  rw [List.map_cons] at r
  cases r with
  | cons h t =>
   obtain ⟨h1,h2⟩:=xD k g t
   refine ⟨?_,.cons h.2 h2⟩
   rw [List.map_cons,List.map_cons,h1]
   exact congrArg (· :: _) h.1
end
theorem BD {H:Hp} {M1 M':aF} {γ:Type} (g:γ->U) {l:List (Str × γ)} {a:Addr} (rm:RelM K H M1) (h:M1 a=some (.dK (l.map fun e=>(Sum.inr e.1,g e.2)))) (hn:M' a=none) (st:aS H M1 H M'):aJ K H M' (.dic (l.map fun e=>[Sum.inr e.1]) false (l.map fun e=>g e.2)) (.ref a):=by
 obtain ⟨ws,h1,r⟩:=rm a _ h
 obtain ⟨h2,h3⟩:=xD (fun c:Str=>(Sum.inr c:Key)) g r
 simp only [aJ]
 refine ⟨a,ws.map (·.2),rfl,hn,⟨ws,.inl h1,?_,rfl⟩,h3.stp st⟩
 have:=congrArg (List.map fun k:Key=>[k]) h2
 rw [List.map_map,List.map_map] at this
 exact this
theorem BQ {H:Hp} {M1 M':aF} {γ:Type} (g:γ->U) {l:List (List Nat × γ)} {a:Addr} (rm:RelM K H M1) (h:M1 a=some (.dT (l.map fun e=>(pk e.1,g e.2)))) (hn:M' a=none) (st:aS H M1 H M'):aJ K H M' (.dic (l.map fun e=>pk e.1) true (l.map fun e=>g e.2)) (.ref a):=by
 obtain ⟨ws,h1,r⟩:=rm a _ h
 obtain ⟨h2,h3⟩:=xD pk g r
 simp only [aJ]
 exact ⟨a,ws.map (·.2),rfl,hn,⟨ws,.inl h1,h2,rfl⟩,h3.stp st⟩
def GF (fj:Addr):dC:=fun us M Q=>∃ (ls:List Ld) (p:List Nat) (v c:Addr) (vs:VS) (chs:CS) (cs:List Str) (sz:Nat),us=[.lst (ls.map Ld.toU),aN p,.ref v,.ref c,.ref fj]/\v≠c/\M v=some (.dT (jX vs))/\M c=some (.dT (kR chs))/\asc vs p=none/\asc chs p=none/\vs.length<=1000/\chs.length<=1000/\ls.length<=1000/\Ei vs/\cs.length<=6/\1<=sz/\sz<=1000/\(∀ l∈ls,AU cs vs p sz l) /\
 ∀ (m:VM) (ch:CM),vF cs vs p sz ls m ch->Q .non (mup (mup M v (.dT (jX (vs++[(p,m)])))) c (.dT (kR (chs++[(p,ch)]))))
theorem Mk {fj:Addr} (C:Callee P w K mg base 3 "fill_least" (Em fj) []):Callee P w K mg base 3 "fill_least" (GF fj) []:=by
 refine Callee.conv C fun us M Q h=>?_
 obtain ⟨ls,p,v,c,vs,chs,cs,sz,rfl,hvc,hMv,hMc,h1,h2,h3,h4,h5,h6,h7,h8,h9,h10,q⟩:=h
 refine ⟨ls,p,v,c,vs,chs,cs,sz,rfl,hvc,hMv,hMc,h1,h2,h3,h4,h5,h6,h7,h8,h9,h10,fun p1 p2 m ch hp1 hp2 hp12 hf=>?_⟩
 have hv1:v≠p1:=fun z=>by subst z;rw [hMv] at hp1;cases hp1
 have hc1:c≠p1:=fun z=>by subst z;rw [hMc] at hp1;cases hp1
 have hv2:v≠p2:=fun z=>by subst z;rw [hMv] at hp2;cases hp2
 have hc2:c≠p2:=fun z=>by subst z;rw [hMc] at hp2;cases hp2
 have ap:Ap v c p1 p2:=⟨hvc,hv1,hv2,hc1,hc2,hp12⟩
 refine ⟨.non,_,fun K H x rm ru=>?_,q m ch hf⟩
 generalize hM1:iA M v c p1 p2 (jX vs++[(pk p,.ref p1)]) (kR chs++[(pk p,.ref p2)]) m ch=M1 at *
 generalize hM':mup (mup M v (.dT (jX (vs++[(p,m)])))) c (.dT (kR (chs++[(p,ch)])))=M' at *
 have a1:M1 p1=some (.dK (lU m)):=by rw [<- hM1];exact yF ap
 have a2:M1 p2=some (.dK (xK ch)):=by rw [<- hM1];exact Lb
 have av:M1 v=some (.dT (jX vs++[(pk p,.ref p1)])):=by rw [<- hM1];exact BB ap
 have ac:M1 c=some (.dT (kR chs++[(pk p,.ref p2)])):=by rw [<- hM1];exact Lg ap
 have n1:M' p1=none:=by rw [<- hM',aO (fun e=>hc1 e.symm),aO (fun e=>hv1 e.symm)];exact hp1
 have n2:M' p2=none:=by rw [<- hM',aO (fun e=>hc2 e.symm),aO (fun e=>hv2 e.symm)];exact hp2
 have oth:∀ b,b≠v->b≠c->b≠p1->b≠p2->M1 b=M b/\M' b=M b:=fun b b1 b2 b3 b4=>by
  rw [<- hM1,<- hM'];unfold iA
  rw [aO b4,aO b3,aO b2,aO b1,aO b2,aO b1];exact ⟨rfl,rfl⟩
 have st:aS H M1 H M':=aS.less fun b hb=>by
  have b1:b≠v:=fun z=>by subst z;rw [av] at hb;cases hb
  have b2:b≠c:=fun z=>by subst z;rw [ac] at hb;cases hb
  have b3:b≠p1:=fun z=>by subst z;rw [a1] at hb;cases hb
  have b4:b≠p2:=fun z=>by subst z;rw [a2] at hb;cases hb
  obtain ⟨o1,o2⟩:=oth b b1 b2 b3 b4
  rw [o2,<- o1];exact hb
 refine ⟨st,fun a mo e=>?_,ru.stp st⟩
 by_cases e2:a=c
 ·subst e2
  rw [<- hM',aH] at e
  cases e
  obtain ⟨ws,g1,r⟩:=rm a _ ac
  refine ⟨ws,g1,?_⟩
  have ec:kR (chs++[(p,ch)])=kR chs++[(pk p,Ae ch)]:=by simp [kR]
  rw [ec]
  exact Au st (fun x rx=>by rw [rx.ref];exact BD D6 rm a2 n2 st) r
 ·by_cases e1:a=v
  ·subst e1
   rw [<- hM',aO e2,aH] at e
   cases e
   obtain ⟨ws,g1,r⟩:=rm a _ av
   refine ⟨ws,g1,?_⟩
   have ec:jX (vs++[(p,m)])=jX vs++[(pk p,mK m)]:=by simp [jX]
   rw [ec]
   exact Au st (fun x rx=>by rw [rx.ref];exact BD U.int rm a1 n1 st) r
  ·have e3:a≠p1:=fun z=>by subst z;rw [n1] at e;cases e
   have e4:a≠p2:=fun z=>by subst z;rw [n2] at e;cases e
   obtain ⟨o1,o2⟩:=oth a e1 e2 e3 e4
   rw [o2,<- o1] at e
   refine (rm a mo e).stp (fun b q hb=>?_) st rfl
   by_cases b2:b=c
   ·subst b2;rw [<- hM',aH] at hb;cases hb
   ·by_cases b1:b=v
    ·subst b1;rw [<- hM',aO b2,aH] at hb;cases hb
    ·have b3:b≠p1:=fun z=>by subst z;rw [n1] at hb;cases hb
     have b4:b≠p2:=fun z=>by subst z;rw [n2] at hb;cases hb
     obtain ⟨o1,o2⟩:=oth b b1 b2 b3 b4
     rw [o1,<- o2];exact hb
def Ej (vs:VS):U:=.dic (vs.map fun e=>pk e.1) true (vs.map fun e=>mK e.2)
def QR (cs:CS):U:=.dic (cs.map fun e=>pk e.1) true (cs.map fun e=>Ae e.2)
theorem LR {γ:Type} (g:γ->U):∀ m:List (List Nat × γ),(m.map fun e=>pk e.1).zip (m.map fun e=>g e.2)=m.map fun e=>(pk e.1,g e.2)
 | []=>rfl
 | e :: m=>by simp only [List.map_cons,List.zip_cons_cons];rw [LR g m]
theorem QM {M:aF} (m:VS):iZ M (Ej m)=some (.dT (jX m)):=by simp only [Ej,iZ];rw [LR mK m];rfl
theorem Na {M:aF} {v c:Addr} {a b a' b':MO} (h:v≠c):mup (mup (mup (mup M v a) c b) v a') c b'=mup (mup M v a') c b':=by
 funext z
 by_cases e1:z=c
 ·subst e1;rw [aH,aH]
 ·rw [aO e1,aO e1]
  by_cases e2:z=v
  ·subst e2;rw [aH,aH]
  ·rw [aO e2,aO e1,aO e2,aO e2]
def BR (fj:Addr):dC:=fun us M Q=>∃ (cs:List Str) (tls:List Tl) (t:Tr),us=[iD cs tls,t.toU,.ref fj]/\Tab cs tls/\t.dep<=12/\t.size<=1000/\∀ (v c:Addr) (vs:VS) (chs:CS),M v=none->M c=none->v≠c->Bd t tls cs t.places.reverse vs chs->Q (.tup [.ref v,.ref c]) (mup (mup M v (.dT (jX vs))) c (.dT (kR chs)))
theorem Iq {fj:Addr} (F:cZ K "least_of_all" "least_of_all" mR f fd) (hm:mg "least_of_all"=some (.ref f)) (kH:mg "reversed"=none) (xQ:Callee P w K mg base 14 "places" (i6 12) []) (Fu:Callee P w K mg base 10 "tiles_at" Bh []) (B0:Callee P w K mg base 3 "fill_least" (GF fj) []):Callee P w K mg base 15 "least_of_all" (BR fj) []:=by
 refine bT F hm jT (wJ fun _ _ _ _ _ _ _ _ _=>rfl) (aD (aR 3 jT.nd (wA true))
 (aD (aR 4 jT.nd (wA true))
 (aD (eB (wL kH (aA (aM xQ (aA (uv 1) aB)) aB)) (aZ (k:=1000) 5 jT.nd)
 (aG (lQ (aM B0 (aA (aM Fu (aA (uv 0) (aA (uv 1) (aA (uv 5) aB)))) (aA (uv 5) (aA (uv 3) (aA (uv 4) (aA (uv 2) aB)))))))))
 (aG (aW (bG (aA (uv 3) (aA (uv 4) aB)))))))) ?_
 rintro us M Q ⟨cs,tls,t,rfl,hT,hd,hs,q⟩
 refine ⟨rfl,?_⟩
 have hpl:=fE t
 have hnd:t.places.Nodup:=(jB t).imp fun {x y} h z=>h (by rw [z];exact List.prefix_refl _)
 refine aE fun V hV=>?_
 simp! only [bA,hName,bK,bJ,cQ,bQ,bW,bV]
 intro v hv
 subst hV
 refine aE fun V hV=>?_
 simp! only [bA,hName,bK,bJ,cQ,bQ,bW,bV]
 intro c hc
 have hvc:v≠c:=fun z=>by subst z;rw [aH] at hc;cases hc
 rw [aO (fun e=>hvc e.symm)] at hc
 have e0:mup (mup M v (IG true)) c (IG true)=mup (mup M v (.dT (jX []))) c (.dT (kR [])):=rfl
 rw [e0]
 subst hV
 refine aE fun V hV=>?_
 refine eS (S:=⟨none,(t.places.map aN).reverse⟩) (M1:=mup (mup M v (.dT (jX []))) c (.dT (kR []))) (fun R r=>by
   simp! only [bK,bJ,cQ,bQ,bW,bV]
   exact ⟨t,rfl,hd,hs,r⟩)
  (fun i τ Mi=>∃ (vs:VS) (chs:CS) (z5:Option U),τ=[some (iD cs tls),some t.toU,some (.ref fj),some (.ref v),some (.ref c),z5]/\Mi=mup (mup M v (.dT (jX vs))) c (.dT (kR chs))/\Bd t tls cs (t.places.reverse.take i) vs chs) ⟨[],[],none,rfl,rfl,.nil⟩ nk ?_ ?_
 ·rintro i x τ Mi e ⟨vs,chs,z5,rfl,rfl,b⟩
  have e':(t.places.map aN).reverse[i]?=some x:=e
  rw [<- List.map_reverse,List.getElem?_map] at e'
  cases hj:t.places.reverse[i]? with
  | none=>rw [hj] at e';cases e'
  | some p =>
   rw [hj] at e'
   cases e'
   have hi:=(List.getElem?_eq_some_iff.mp hj).1
   have hsplit:t.places.reverse=t.places.reverse.take i++p :: t.places.reverse.drop (i + 1):=by
    have:=List.getElem_cons_drop hi
    rw [(List.getElem?_eq_some_iff.mp hj).2] at this
    rw [this,List.take_append_drop]
   have hpl2:t.places=(t.places.reverse.drop (i + 1)).reverse++p :: (t.places.reverse.take i).reverse:=by
    have:=congrArg List.reverse hsplit
    rw [List.reverse_reverse,List.reverse_append,List.reverse_cons,List.append_assoc] at this
    exact this
   have hmem:p∈t.places:=List.mem_reverse.mp (List.mem_of_getElem? hj)
   obtain ⟨t',ht⟩:=tW t p hmem
   have hnew:p ∉ t.places.reverse.take i:=by
    have h2:t.places.reverse.Nodup:=List.pairwise_reverse.mpr (hnd.imp fun {a b} h=>Ne.symm h)
    rw [hsplit] at h2
    exact fun z=>(List.nodup_append.mp h2).2.2 p z p List.mem_cons_self rfl
   have hok:=Bd.ld (vs:=vs) (chs:=chs) (B:=(t.places.reverse.take i).reverse) hT hpl2 ht (by rw [List.reverse_reverse];exact b)
   have hsz:=rG t p t' ht
   have hll:=xI t' p tls 0
   have htl:=hT.len
   have hlv:=b.lenV
   have hlc:=b.lenC
   rw [List.length_take,List.length_reverse] at hlv hlc
   have hps:=gO t p hmem
   simp! only [hZ,hName,bK,bJ,cQ,bQ,bW,bV]
   refine ⟨cs,tls,t,t',p,rfl,yD t p t' ht,fun tl h=>by have h2:tl.pt.dep<=4:=(hT.good tl h).2.1;omega,by omega,by omega,?_⟩
   refine ⟨dA t' p 0 tls,p,v,c,vs,chs,cs,t'.size,rfl,hvc,by rw [aO hvc,aH],aH,b.noV hnew,b.noC hnew,by omega,by omega,by omega,b.low hs,hT.cls.len,size_pos t',by omega,hok,fun m ch hf=>?_⟩
   refine ⟨vs++[(p,m)],chs++[(p,ch)],_,rfl,Na hvc,?_⟩
   ·have hb:=Bd.snoc b hnew ht hf
    rw [List.take_add_one,hj]
    exact hb
 ·rintro τ Mi ⟨vs,chs,z5,rfl,rfl,b⟩
  have hlen:(Src.mk none (t.places.map aN).reverse).xs.length=t.places.reverse.length:=by show ((t.places.map aN).reverse).length=_;simp
  rw [hlen,List.take_length] at b
  subst hV
  simp! only [bS,bK,bJ,cQ,bQ,bW,bV]
  exact aU (q v c vs chs hv hc hvc b)
def EG (fj:Addr):dC:=fun us M Q=>∃ (cs:List Str) (tls:List Tl) (t:Tr),us=[iD cs tls,t.toU,.ref fj]/\Tab cs tls/\t.dep<=12/\t.size<=1000/\∀ (vs:VS) (chs:CS),Bd t tls cs t.places.reverse vs chs->Q (.tup [Ej vs,QR chs]) M
theorem yE {fj:Addr} (C:Callee P w K mg base 15 "least_of_all" (BR fj) []):Callee P w K mg base 15 "least_of_all" (EG fj) []:=by
 refine Callee.conv C fun us M Q h=>?_
 obtain ⟨cs,tls,t,rfl,hT,hd,hs,q⟩:=h
 refine ⟨cs,tls,t,rfl,hT,hd,hs,fun v c vs chs hv hc hvc b=>?_⟩
 refine ⟨.tup [Ej vs,QR chs],M,fun K H x rm ru=>?_,q vs chs b⟩
 generalize hM1:mup (mup M v (.dT (jX vs))) c (.dT (kR chs))=M1 at *
 have av:M1 v=some (.dT (jX vs)):=by rw [<- hM1,aO hvc,aH]
 have ac:M1 c=some (.dT (kR chs)):=by rw [<- hM1,aH]
 have oth:∀ b,b≠v->b≠c->M1 b=M b:=fun b b1 b2=>by rw [<- hM1,aO b2,aO b1]
 have st:aS H M1 H M:=aS.less fun b hb=>by
  have b1:b≠v:=fun z=>by subst z;rw [av] at hb;cases hb
  have b2:b≠c:=fun z=>by subst z;rw [ac] at hb;cases hb
  rw [<- oth b b1 b2];exact hb
 refine ⟨st,fun a mo e=>?_,?_⟩
 ·have b1:a≠v:=fun z=>by subst z;rw [hv] at e;cases e
  have b2:a≠c:=fun z=>by subst z;rw [hc] at e;cases e
  rw [<- oth a b1 b2] at e
  exact (rm a mo e).stp (fun b q hb=>by rw [oth b (fun z=>by subst z;rw [hv] at hb;cases hb) (fun z=>by subst z;rw [hc] at hb;cases hb)];exact hb) st rfl
 ·simp only [aJ] at ru ⊢
  obtain ⟨a,xs,rfl,h1,h2⟩:=ru
  obtain ⟨x1,r1,rfl,k1,k2⟩:=h2.inv_cons
  obtain ⟨x2,rfl,k3⟩:=k2.one
  rw [k1.ref,k3.ref] at h1
  refine ⟨a,_,rfl,?_,.cons (BQ mK rm av hv st) (.cons (BQ Ae rm ac hc st) .nil)⟩
  obtain ⟨m1,h1⟩:=h1
  exact ⟨(st a _ h1 m1).2,h1⟩
end
end K28
namespace K28
open PySem L2 U2
theorem vF.le {cs cs2:List Str} {vs1 vs2:VS} {p:List Nat} {sz sz2:Nat} {ls ls2:List Ld} {m1 m2:VM} {ch1 ch2:CM} (f1:vF cs vs1 p sz ls m1 ch1) (f2:vF cs2 vs2 p sz2 ls2 m2 ch2)
  (gF:∀ l∈ls,∃ l2∈ls2,l2.cls=l.cls/\l2.spots=l.spots/\l2.price<=l.price) (hvs:∀ s v,aY vs1 s=some v->∃ v2,aY vs2 s=some v2/\v2<=v):∀ c v1,asc m1 c=some v1->∃ v2,asc m2 c=some v2/\v2<=v1:=by
 obtain ⟨rk,hrk⟩:=f1.rk
 have main:∀ n c v1,rk c < n->asc m1 c=some v1->∃ v2,asc m2 c=some v2/\v2<=v1:=by
  intro n
  induction n with
  | zero=>intro c v1 h;omega
  | succ n ih =>
   intro c v1 hn h
   obtain ⟨h0,h1,l,a1,a2,a3,w,a4,a5⟩:=f1.just c v1 h
   obtain ⟨l2,b1,b2,b3,b4⟩:=gF l a2
   have each:∀ s∈l.spots,∀ a,cur vs1 p m1 s=some a->∃ a',cur vs2 p m2 s=some a'/\a'<=a:=fun s hs a ha=>by
    unfold cur at ha ⊢
    by_cases e:s.1=p
    ·rw [if_pos e] at ha ⊢
     exact ih s.2 a (by have:=hrk c l a1 s hs e;omega) ha
    ·rw [if_neg e] at ha ⊢
     exact hvs s a ha
   have sm:∀ (l:List (List Nat × Str)) (w:Int),(∀ s∈l,∀ a,cur vs1 p m1 s=some a->∃ a',cur vs2 p m2 s=some a'/\a'<=a)->bO (cur vs1 p m1) l=some w->∃ w',bO (cur vs2 p m2) l=some w'/\w'<=w:=by
    intro l
    induction l with
    | nil=>intro w _ h;cases h;exact ⟨0,rfl,by omega⟩
    | cons s r ihr =>
     intro w hh h
     obtain ⟨a,b,k1,k2,rfl⟩:=iF h
     obtain ⟨a',g1,g2⟩:=hh s List.mem_cons_self a k1
     obtain ⟨b',g3,g4⟩:=ihr b (fun x hx=>hh x (List.mem_cons_of_mem _ hx)) k2
     exact ⟨a' + b',qA g1 g3,by omega⟩
   obtain ⟨w',g1,g2⟩:=sm l.spots w each a4
   obtain ⟨v2,k1,k2⟩:=f2.fix l2 b1 w' (by rw [b3];exact g1)
   rw [b2,a3] at k1
   exact ⟨v2,k1,by omega⟩
 exact fun c v1 h=>main (rk c + 1) c v1 (by omega) h
theorem Jt {α:Type} {a b:List α} {x y:α} (h:a++[x]=b++[y]):a=b/\x=y:=by
 have:=List.append_inj' h rfl
 exact ⟨this.1,by simpa using this.2⟩
theorem Bd.le {t:Tr} {tls tls2:List Tl} {cs cs2:List Str} {ps:List (List Nat)} {vs1 vs2:VS} {ch1 ch2:CS} (gF:∀ (t':Tr) (p:List Nat),∀ l∈dA t' p 0 tls,∃ l2∈dA t' p 0 tls2,l2.cls=l.cls/\l2.spots=l.spots/\l2.price<=l.price)
  (b1:Bd t tls cs ps vs1 ch1) (b2:Bd t tls2 cs2 ps vs2 ch2):∀ s v,aY vs1 s=some v->∃ v2,aY vs2 s=some v2/\v2<=v:=by
 induction b1 generalizing vs2 ch2 with
 | nil=>intro s v h;cases h
 | @snoc ps vs chs p t' m ch b hp ht hf ih =>
  generalize hq:ps++[p]=qs at b2
  cases b2 with
  | nil=>exact absurd hq (by simp)
  | @snoc ps2 vs2 chs2 p2 t2 m2 ch2 b2 hp2 ht2 hf2 =>
   obtain ⟨rfl,rfl⟩:=Jt hq
   rw [ht] at ht2;cases ht2
   have ih':=ih b2
   intro s v h
   rw [<- rY (b.noV hp)] at h
   rw [<- rY (b2.noV hp)]
   unfold cur at h ⊢
   by_cases e:s.1=p
   ·rw [if_pos e] at h ⊢
    exact hf.le hf2 (gF t' p) ih' _ _ h
   ·rw [if_neg e] at h ⊢
    exact ih' s v h
theorem Bd.uniq {t:Tr} {tls:List Tl} {cs cs2:List Str} {ps:List (List Nat)} {vs1 vs2:VS} {ch1 ch2:CS} (b1:Bd t tls cs ps vs1 ch1) (b2:Bd t tls cs2 ps vs2 ch2) (s:List Nat × Str):aY vs1 s=aY vs2 s:=by
 have gF:∀ (t':Tr) (p:List Nat),∀ l∈dA t' p 0 tls,∃ l2∈dA t' p 0 tls,l2.cls=l.cls/\l2.spots=l.spots/\l2.price<=l.price:=fun t' p l hl=>⟨l,hl,rfl,rfl,by omega⟩
 have h1:=b1.le gF b2 s
 have h2:=b2.le gF b1 s
 cases e1:aY vs1 s with
 | none =>
  cases e2:aY vs2 s with
  | none=>rfl
  | some v=>obtain ⟨v2,k,_⟩:=h2 v e2;rw [e1] at k;cases k
 | some v =>
  obtain ⟨v2,k1,k2⟩:=h1 v e1
  obtain ⟨v3,k3,k4⟩:=h2 v2 k1
  rw [e1] at k3;cases k3
  rw [k1,show v2=v by omega]
def wC (chs:CS) (s:List Nat × Str):Option Ld:=(asc chs s.1).bind fun m=>asc m s.2
def Cq (tiles:List Tl):List Int->List Wt->Option (List Wt)
 | [],st=>some st
 | n :: r,st=>(E9 tiles n st).bind (Cq tiles r)
theorem Kj (tiles:List Tl):∀ (a b:List Int) (st:List Wt),Cq tiles (a++b) st=(Cq tiles a st).bind (Cq tiles b)
 | [],b,st=>rfl
 | n :: a,b,st=>by
  simp only [List.cons_append,Cq]
  cases E9 tiles n st with
  | none=>rfl
  | some st'=>exact Kj tiles a b st'
theorem F8 (tls:List Tl) (g:List Nat × Str->Option Int):∀ (l:List (List Nat × Str)) (wss:List (List Int)) (w:Int),wss.length=l.length->(∀ (i:Nat) s ws,l[i]?=some s->wss[i]?=some ws->∀ v,g s=some v->(ws.map (Hv tls)).sum=v)->bO g l=some w->(wss.flatten.map (Hv tls)).sum=w
 | [],[],w,_,_,h=>by cases h;rfl
 | [],_ :: _,_,h,_,_=>by cases h
 | _ :: _,[],_,h,_,_=>by cases h
 | s :: l,ws :: wss,w,hl,hc,h=>by
  obtain ⟨a,b,h1,h2,rfl⟩:=iF h
  rw [List.flatten_cons,List.map_append,List.sum_append,hc 0 s ws rfl rfl a h1,F8 tls g l wss b (by simpa using hl) (fun i s w h1 h2=>hc (i + 1) s w h1 h2) h2]
section
variable {t:Tr} {tls:List Tl} {cs:List Str} {ps:List (List Nat)} {vs:VS} {chs:CS}
theorem HW {chs:CS} {p:List Nat} {ch:CM} {c:Str} (h:asc chs p=none):wC (chs++[(p,ch)]) (p,c)=asc ch c:=by
 unfold wC
 rw [oJ,h]
 show (asc [(p,ch)] p).bind _=_
 rw [iW (p:=(p,ch)) rfl];rfl
theorem rM {M:aF} {x:U} {kvs:List (List Key × U)} (p:List Nat) (h:iZ M x=some (.dT kvs)):fF true M x (aN p)=some (cU kvs (pk p)):=by
 simp only [fF,h,aN,rN,Option.map_some]
def fH (cs:List Str) (vs:VS) (p:List Nat):U:=.tup [aN p,.tup (cs.map fun c=>eO (aY vs (p,c)))]
def Ef:dC:=fun us M Q=>∃ (cs:List Str) (tls:List Tl) (t:Tr) (vs:VS),us=[iD cs tls,t.toU,Ej vs]/\t.dep<=12/\t.size<=1000/\cs.length<=6/\(∀ p∈t.places,∃ m,asc vs p=some m)/\∀ r,M r=none->Q (.ref r) (mup M r (.lst (t.places.map (fH cs vs))))
local macro_rules | `(tactic| simp! only [$xs,*] $[$l]?) => `(tactic| simp only [$xs,*, Bool.false_eq_true, Bool.not_false, Bool.not_true, List.append_nil, List.cons_append, List.getElem?_cons_succ, List.getElem?_cons_zero, List.length_cons, List.length_nil, List.map_cons, List.map_nil, List.nil_append, List.replicate, List.set_cons_succ, List.set_cons_zero, Nat.add_sub_cancel, Nat.reduceAdd, Nat.reduceLeDiff, Nat.reduceSub, Nat.sub_self, Option.getD_some, Option.some.injEq, and_true, CQ, Cu, at2, B5, t5, tO, tB, tF, m3, qK, mZ, xN, rP, uP, kX, A5, Ba, Bc, Ca, cY, decide_false, decide_true, mB, l9, exists_eq_left', if_false, if_true, w6, pY, gG, dQ, dP, d7, dO, d8, dE, fQ, fL, gW, fV, gP, eY, fR, fP, gU, gD, gS, fA, gM, gX, iI, hG, iM, fX, gC, fO, gR, fT, gQ, eZ, gY, gZ, iP, gN, iK, fY, fB, fC, fW, e8, fN, eM, items, tY, jG, oQ, jM, xS, oY, jQ, bX, aH, reduceCtorEq, gT, BG, true_and, t6, qN, nB, tE, nZ, wQ, xA, uC, wN, oA, nE, k5, oB, nV, lW, xX, uI, oO, zA, vC, qJ, n5, w4, xH, tJ, tH, qL, xU, tD, kM, tI, m7, oF, kO, yK, sM, nU, vL, Ah, n6, n8, xJ, Av, lR, tG, sI, Ct, o5, t7, fD, oG, o6, o4, pH, nG, o7, pT] $[$l]?)
theorem Dt (F:cZ K "as_paper" "as_paper" t9 f fd) (hm:mg "as_paper"=some (.ref f)) (hNK:jS K) (i4:mg "tuple"=none) (xQ:Callee P w K mg base 14 "places" (i6 12) []):Callee P w K mg base 15 "as_paper" Ef []:=by
 refine bT F hm Dh (wJ fun _ _ _ _ _ _ _ _ _=>rfl) (aG (aW (JT true ["place","table","values"] [0,2] (eX (aM xQ (aA (uv 1) aB))) (bG (aA (uv 0) (aA (xM Aq i4 (aA (mX false ["cls","values","place"] 1 [2,0] (eX (aQ (uv 1) aI)) (aZ (k:=1) 0 (by dsimp only [b8];decide +kernel)) jH (Cc false Ad (iR true (fun _=>hNK) (uv 1) (uv 2)) (uv 0))) aB)) aB)))))) ?_
 rintro us M Q ⟨cs,tls,t,vs,rfl,hd,hs,h6,hat,q⟩
 refine ⟨rfl,?_⟩
 have hpl:=fE t
 simp! only [bS,bK,bJ,cQ,bQ,bW,bV]
 refine dX (S:=⟨none,t.places.map aN⟩) (M1:=M) (t.places.map (fH cs vs)) (fun R r=>⟨t,rfl,hd,hs,r⟩) (by simp) (small (by show (t.places.map aN).length<=_;rw [List.length_map];omega)) (fun a e=>by cases e) ?_ (fun r hr=>aU (q r hr))
 intro j x y hx hy M' hS R r'
 have hx':(t.places.map aN)[j]?=some x:=hx
 rw [List.getElem?_map] at hx' hy
 cases hj:t.places[j]? with
 | none=>rw [hj] at hx';cases hx'
 | some p =>
  rw [hj] at hx' hy
  cases hx';cases hy
  obtain ⟨m,hm'⟩:=hat p (List.mem_of_getElem? hj)
  simp! only [hName,bK,bJ,cQ,bQ,bW,bV]
  refine dX (S:=⟨none,cs.map U.str⟩) (M1:=M') (cs.map fun c=>eO (aY vs (p,c))) (fun R r=>by simp! only [jY,dM,bK,bJ,cQ,bQ,bW,bV];exact r) (by simp) (small (by show (cs.map U.str).length<=_;rw [List.length_map];omega)) (fun a e=>by cases e) ?_ ?_
  ·intro j x y hx hy M2 hS R r'
   have hx':(cs.map U.str)[j]?=some x:=hx
   rw [List.getElem?_map] at hx' hy
   cases hj:cs[j]? with
   | none=>rw [hj] at hx';cases hx'
   | some c =>
    rw [hj] at hx' hy
    cases hx';cases hy
    have l1:fF true M2 (Ej vs) (aN p)=some (some (mK m)):=by rw [rM p (QM vs),FR,hm'];rfl
    have l2:fF false M2 (mK m) (.str c)=some ((asc m c).map U.int):=by rw [CW c (BZ m),zC]
    have l3:AK M2 (mK m)=true:=LB (BZ m)
    simp! only [hName,l1,l2,l3,bK,bJ,cQ,bQ,bW,bV]
    have r2:R (eO (aY vs (p,c))) M2:=r'
    unfold aY at r2
    dsimp only at r2
    rw [hm'] at r2
    have r3:R (eO (asc m c)) M2:=r2
    cases hc:asc m c with
    | none=>rw [hc] at r3;exact r3
    | some a=>rw [hc] at r3;exact r3
  ·simp! only [bK,bJ,cQ,bQ,bW,bV]
   exact r'
def C5:dC:=fun us M Q=>∃ (cs:List Str) (tls:List Tl) (t:Tr),us=[iD cs tls,t.toU]/\Tab cs tls/\t.dep<=12/\t.size<=1000/\∀ (vs:VS) (chs:CS),Bd t tls cs t.places.reverse vs chs->∀ r,M r=none->Q (.ref r) (mup M r (.lst (t.places.map (fH cs vs))))
theorem HG {fj:Addr} (F:cZ K "labels" "labels" x6 f fd) (hm:mg "labels"=some (.ref f)) (iY:mg "joined_price"=some (.ref fj)) (EV:Callee P w K mg base 15 "as_paper" Ef []) (Aj:Callee P w K mg base 15 "least_of_all" (EG fj) []):Callee P w K mg base 16 "labels" C5 []:=by
 refine bT F hm IJ (uQ fun _ _ _ _ _ _ _ _=>rfl) (aG (aW (aM EV (aA (uv 0) (aA (uv 1) (aA (aQ (aM Aj (aA (uv 0) (aA (uv 1) (aA (Hb iY) aB)))) aI) aB)))))) ?_
 rintro us M Q ⟨cs,tls,t,rfl,hT,hd,hs,q⟩
 refine ⟨rfl,?_⟩
 simp! only [bS,bK,bJ,cQ,bQ,bW,bV]
 refine ⟨cs,tls,t,rfl,hT,hd,hs,fun vs chs b=>?_⟩
 simp! only [bK,bJ,cQ,bQ,bW,bV]
 refine ⟨cs,tls,t,vs,rfl,hd,hs,hT.cls.len,fun p hp=>?_,fun r hr=>aU (q vs chs b r hr)⟩
 have:(asc vs p).isSome=true:=by rw [kI,b.keysV];exact List.mem_reverse.mpr hp
 exact Option.isSome_iff_exists.mp this
def PM:dC:=fun us M Q=>∃ i:Int,us=[.int i]/\Q (.bl true) M
local macro_rules | `(tactic| simp_all! only [$xs,*]) => `(tactic| simp only [$xs,*, Bool.false_eq_true, Bool.not_false, Bool.not_true, List.append_nil, List.cons_append, List.getElem?_cons_succ, List.getElem?_cons_zero, List.length_cons, List.length_nil, List.map_cons, List.map_nil, List.nil_append, List.replicate, List.set_cons_succ, List.set_cons_zero, Nat.add_sub_cancel, Nat.reduceAdd, Nat.reduceLeDiff, Nat.reduceSub, Nat.sub_self, Option.getD_some, Option.some.injEq, and_true, CQ, Cu, at2, B5, t5, tO, tB, tF, m3, qK, mZ, xN, uP, kX, A5, Ba, Bc, Ca, cY, decide_false, decide_true, mB, l9, exists_eq_left', if_false, if_true, w6, pY, gG, dQ, dP, d7, dO, d8, dE, fQ, fL, gW, fV, gP, eY, fR, fP, gU, gD, gS, fA, gM, gX, iI, hG, iM, fX, gC, fO, gR, fT, gQ, eZ, gY, gZ, iP, gN, iK, fY, fB, fC, fW, e8, fN, eM, items, tY, jG, oQ, jM, xS, oY, jQ, bX, aH, reduceCtorEq, gT, BG, true_and, t6, qN, nB, tE, nZ, wQ, xA, uC, wN, oA, nE, k5, oB, nV, lW, xX, uI, oO, zA, vC, qJ, n5, w4, tJ, tH, qL, xU, tD, kM, tI, m7, oF, kO, yK, sM, nU, n6, n8, eV, OC, lR, tG, sI, Ct, o5, t7, fD, u6, oG, o6, o4, pH, nG, o7, pT])
theorem QK (F:cZ K "_law_whole" "_law_whole" qO f fd) (hm:mg "_law_whole"=some (.ref f)) (eQ:mg "isinstance"=none) (nW:mg "int"=none) (Ce:mg "bool"=none):Callee P w K mg base 1 "_law_whole" PM []:=by
 refine bT F hm C3 (u4 fun _ _ _ _ _ _ _=>rfl) (aG (aW (GV (fM yR eQ (aA (uv 0) (aA (yC (n:="int") nW) aB))) (BP (Pj (fM yR eQ (aA (uv 0) (aA (yC (n:="bool") Ce) aB)))))))) ?_
 rintro us M Q ⟨i,rfl,q⟩
 refine ⟨rfl,?_⟩
 simp_all! only [bS]
 exact aU q
def cE (p:Pt) (pl:List Nat):List (List Nat × Str):=(bN p pl).filterMap hF
def hW (p:Pt) (t:Tr) (pl:List Nat):U:=if cJ p t=true then .lst ((cE p pl).map cV) else .non
def AR (n:Nat):dC:=fun us M Q=>∃ (p:Pt) (t:Tr) (pl:List Nat),us=[p.toU,t.toU,aN pl]/\p.dep<=n/\n<=10/\pl.length + n<=1000/\Q (hW p t pl) M
def pM (pl:List Nat):Nat->List Pt->List (List Nat × Str)
 | _,[]=>[]
 | k,x :: r=>cE x (pl++[k])++pM pl (k + 1) r
theorem B9 (pl:List Nat) (a:Pt):∀ (l:List Pt) (k:Nat),pM pl k (l++[a])=pM pl k l++cE a (pl++[k + l.length])
 | [],k=>by simp [pM]
 | x :: l,k=>by
  rw [List.cons_append,pM,pM,B9 pl a l (k + 1),List.append_assoc,List.length_cons,show k + 1 + l.length=k + (l.length + 1) by omega]
theorem uD (o:Op) (a b:Pt) (pl:List Nat):cE (.two o a b) pl=cE a (pl++[0])++cE b (pl++[1]):=by
 show ((pl,Pt.two o a b) :: (bN a (pl++[0])++bN b (pl++[1]))).filterMap hF=_
 rw [List.filterMap_cons]
 show (bN a (pl++[0])++bN b (pl++[1])).filterMap hF=_
 rw [List.filterMap_append];rfl
theorem oW:∀ (p:Pt) (pl:List Nat),(cE p pl).length<=2 ^ p.dep
 | .hole c,pl=>by show 1<=2 ^ 1;decide
 | .any,pl=>by show 0<=2 ^ 1;decide
 | .fr l h,pl=>by show 0<=2 ^ 1;decide
 | .turn a,pl=>by
  have e:cE (.turn a) pl=cE a (pl++[0]):=rfl
  have:=oW a (pl++[0])
  rw [e]
  simp only [Pt.dep]
  rw [Nat.pow_succ];omega
 | .two o a b,pl=>by
  have e:cE (.two o a b) pl=cE a (pl++[0])++cE b (pl++[1]):=uD o a b pl
  have h1:=oW a (pl++[0])
  have h2:=oW b (pl++[1])
  rw [e,List.length_append]
  simp only [Pt.dep]
  have h3:2 ^ a.dep<=2 ^ max a.dep b.dep:=Nat.pow_le_pow_right (by decide) (Nat.le_max_left _ _)
  have h4:2 ^ b.dep<=2 ^ max a.dep b.dep:=Nat.pow_le_pow_right (by decide) (Nat.le_max_right _ _)
  rw [Nat.pow_succ];omega
theorem P9 {n:Nat} (F:cZ K "_law_spots" "_law_spots" m8 f fd) (hm:mg "_law_spots"=some (.ref f)) (nW:mg "int"=none) (dJ:mg "range"=none) (bZ:mg "len"=none) (k9:Callee P w K mg base (n + 1) "_law_spots" (AR n) []):Callee P w K mg base (n + 2) "_law_spots" (AR (n + 1)) []:=by
 refine bT F hm j6 (wJ fun _ _ _ _ _ _ _ _ _=>rfl) (aD (bR (bU eK (aQ (uv 0) aI) cM)
 (aG (aW (cR (own:=false) (aA (bG (aA (uv 2) (aA (aQ (uv 0) aI) aB))) aB))))
 bC)
 (aD (bR (bU eK (aQ (uv 0) aI) cM)
 (aG (aW (aQ (cR (own:=false) (aA nH (aA (cR (own:=false) aB) aB))) (xM QC nW (aA (Ai eK (aQ (uv 1) aI) cM) aB)))))
 bC)
 (aD (bR (bU eK (aQ (uv 0) aI) cM)
 (aD (bR (kS.pt (rO (bU eK (aQ (uv 1) aI) cM) (oH (Qs Gu Gu (aQ (uv 0) aI) (aQ (uv 1) aI) (aQ (uv 0) aI)))))
 (aG (aW (cR (own:=false) aB)))
 bC)
 (aG (aW nH)))
 bC)
 (aD (bR (bU vW (aQ (uv 0) aI) (aQ (uv 1) aI))
 (aG (aW nH))
 bC)
 (aD (aR 3 j6.nd (cR (own:=false) aB))
 (aD (eB (DX dJ (aA aI (aA (fM i9 bZ (aA (uv 0) aB)) aB))) (aZ (k:=1000) 4 j6.nd)
 (aD (aR 5 j6.nd (aM k9 (aA (aQ (uv 0) (uv 4)) (aA (aQ (uv 1) (uv 4)) (aA (cX (own:=false) (uv 2) (bG (aA (iT (uv 4) aI) aB))) aB)))))
 (aD (bR (bU BC (uv 5) nH)
 (aG (aW nH))
 bC)
 (aG (aR 3 j6.nd (cX (own:=false) (uv 3) (uv 5)))))))
 (aG (aW (uv 3))))))))) ?_
 rintro us M Q ⟨p,t,pl,rfl,hd,hn,hpl,q⟩
 refine ⟨rfl,?_⟩
 have vP:∀ z r,p.toU=.tup (.str z :: r)->∀ M':aF,view M' p.toU=.tup (.str z :: r):=fun z r h M'=>by rw [h];rfl
 have vT:∀ z r,t.toU=.tup (.str z :: r)->∀ M':aF,view M' t.toU=.tup (.str z :: r):=fun z r h M'=>by rw [h];rfl
 have wAt:∀ o:Op,o.word≠Str.ofString "at"/\o.word≠Str.ofString "any"/\o.word≠Str.ofString "from":=fun o=>by cases o <;> decide +kernel
 have cs:(∃ c,p=.hole c)\/p=.any\/(∃ l h,p=.fr l h)\/∃ (z y:Str) (ps:List Pt) (r:List U),p.toU=.tup (.str z :: ps.map Pt.toU)/\t.toU=.tup (.str y :: r)/\(z≠Str.ofString "at"/\z≠Str.ofString "any"/\z≠Str.ofString "from")/\(∀ x∈ps,x.dep<=n)/\ps.length<=2 /\
   ((z≠y/\cJ p t=false)\/(z=y/\∃ ts:List Tr,r=ts.map Tr.toU/\ts.length=ps.length/\cJ p t=((ps.zip ts).all fun e=>cJ e.1 e.2)/\cE p pl=pM pl 0 ps)):=by
  cases p with
  | hole c=>exact .inl ⟨c,rfl⟩
  | any=>exact .inr (.inl rfl)
  | fr l h=>exact .inr (.inr (.inl ⟨l,h,rfl⟩))
  | turn a =>
   refine .inr (.inr (.inr ?_))
   have ha:∀ x∈[a],x.dep<=n:=fun x hx=>by cases List.mem_singleton.mp hx;simp only [Pt.dep] at hd;omega
   cases t with
   | num m=>exact ⟨"turn","num",[a],_,rfl,rfl,by decide +kernel,ha,by simp,.inl ⟨by decide +kernel,rfl⟩⟩
   | name x=>exact ⟨"turn","name",[a],_,rfl,rfl,by decide +kernel,ha,by simp,.inl ⟨by decide +kernel,rfl⟩⟩
   | two o c d=>exact ⟨"turn",o.word,[a],_,rfl,rfl,by decide +kernel,ha,by simp,.inl ⟨by cases o <;> decide +kernel,rfl⟩⟩
   | turn c=>exact ⟨"turn","turn",[a],_,rfl,rfl,by decide +kernel,ha,by simp,.inr ⟨rfl,[c],rfl,rfl,by simp [cJ],by simp [pM];rfl⟩⟩
  | two o a b =>
   refine .inr (.inr (.inr ?_))
   have ha:∀ x∈[a,b],x.dep<=n:=fun x hx=>by
    simp only [Pt.dep] at hd
    rcases List.mem_cons.mp hx with rfl | hx
    ·omega
    ·cases List.mem_singleton.mp hx;omega
   cases t with
   | num m=>exact ⟨o.word,"num",[a,b],_,rfl,rfl,wAt o,ha,by simp,.inl ⟨by cases o <;> decide +kernel,rfl⟩⟩
   | name x=>exact ⟨o.word,"name",[a,b],_,rfl,rfl,wAt o,ha,by simp,.inl ⟨by cases o <;> decide +kernel,rfl⟩⟩
   | turn c=>exact ⟨o.word,"turn",[a,b],_,rfl,rfl,wAt o,ha,by simp,.inl ⟨by cases o <;> decide +kernel,rfl⟩⟩
   | two o' c d =>
    by_cases ho:o=o'
    ·subst ho
     exact ⟨o.word,o.word,[a,b],_,rfl,rfl,wAt o,ha,by simp,.inr ⟨rfl,[c,d],rfl,rfl,by simp [cJ],by rw [uD];simp [pM]⟩⟩
    ·exact ⟨o.word,o'.word,[a,b],_,rfl,rfl,wAt o,ha,by simp,.inl ⟨fun z=>ho (Op.word_inj.mp z),by simp [cJ,ho]⟩⟩
 rcases cs with ⟨c,rfl⟩ | rfl | ⟨l,h,rfl⟩ | ⟨z,y,ps,r,e1,e2,⟨z1,z2,z3⟩,hdp,hpl2,hcase⟩
 ·refine aE fun V hV=>?_
  refine bD fun A B hA hB=>?_
  simp_all! only [Pt.toU]
  subst hA
  simp_all! only [bS,Pt.toU]
  exact aU q
 ·refine aE fun V hV=>?_
  refine bD fun A B hA hB=>?_
  simp_all! only [Pt.toU]
  rw [if_neg (by decide +kernel)]
  subst hB
  simp only [bF]
  subst hV
  refine aE fun V hV=>?_
  refine bD fun A B hA hB=>?_
  simp_all! only [Pt.toU]
  subst hA
  have e:∀ b:Bool,eL [U.non,.lst []] (if b=true then 1 else 0)=some (if b=true then .lst [] else .non):=fun b=>by cases b <;> rfl
  cases t with
  | num m =>
   simp_all! only [bS,Tr.toU]
   rw [e,show decide (Str.ofString "num"=Str.ofString "name")=false by decide +kernel]
   exact ⟨_,rfl,aU q⟩
  | name x =>
   simp_all! only [bS,Tr.toU]
   exact aU q
  | turn a =>
   simp_all! only [bS,Tr.toU]
   rw [e,show decide (Str.ofString "turn"=Str.ofString "name")=false by decide +kernel]
   exact ⟨_,rfl,aU q⟩
  | two o a b =>
   simp_all! only [bS,Tr.toU]
   rw [e]
   have:decide (o.word=Str.ofString "name")=false:=by cases o <;> decide +kernel
   rw [this]
   exact ⟨_,rfl,aU q⟩
 ·refine aE fun V hV=>?_
  refine bD fun A B hA hB=>?_
  simp_all! only [Pt.toU]
  rw [if_neg (by decide +kernel)]
  subst hB
  simp only [bF]
  subst hV
  refine aE fun V hV=>?_
  refine bD fun A B hA hB=>?_
  simp_all! only [Pt.toU]
  rw [if_neg (by decide +kernel)]
  subst hB
  simp only [bF]
  subst hV
  refine aE fun V hV=>?_
  refine bD fun A B hA hB=>?_
  simp_all! only [Pt.toU]
  subst hA
  refine aE fun V2 hV2=>?_
  refine bD fun A B hA hB=>?_
  have no:cJ (.fr l h) t=false->B M:=fun hf=>by
   subst hB
   simp only [bF]
   subst hV2
   simp_all! only [bS]
   unfold hW at q
   rw [hf,if_neg (by decide)] at q
   exact aU q
  have yes:cJ (.fr l h) t=true->A M:=fun hf=>by
   subst hA
   simp_all! only [bS]
   unfold hW at q
   rw [if_pos hf] at q
   exact aU q
  clear hA hB
  cases t with
  | num m =>
   simp_all! only [Pt.toU,Tr.toU]
   refine fS (fun h1=>?_) (fun h1=>?_)
   ·have h1':l<=m:=by simpa using h1
    refine fS (fun h2=>yes ?_) (fun h2=>no ?_)
    ·show (decide (l<=m) && decide (m<=h))=true
     simp [h1',(by simpa using h2:m<=h)]
    ·show (decide (l<=m) && decide (m<=h))=false
     have h2':¬ m<=h:=by simpa using h2
     simp [h2']
   ·refine no ?_
    show (decide (l<=m) && decide (m<=h))=false
    have h1':¬ l<=m:=by simpa using h1
    simp [h1']
  | name x =>
   simp_all! only [Pt.toU,Tr.toU]
   rw [if_neg (by decide +kernel)]
   exact no rfl
  | turn a =>
   simp_all! only [Pt.toU,Tr.toU]
   rw [if_neg (by decide +kernel)]
   exact no rfl
  | two o a b =>
   simp_all! only [Pt.toU,Tr.toU]
   rw [if_neg (by cases o <;> decide +kernel)]
   exact no rfl
 ·refine aE fun V hV=>?_
  refine bD fun A B hA hB=>?_
  simp_all! only [vP _ _ e1]
  rw [if_neg (by simp [z1])]
  subst hB
  simp only [bF]
  subst hV
  refine aE fun V hV=>?_
  refine bD fun A B hA hB=>?_
  simp_all! only [vP _ _ e1]
  rw [if_neg (by simp [z2])]
  subst hB
  simp only [bF]
  subst hV
  refine aE fun V hV=>?_
  refine bD fun A B hA hB=>?_
  simp_all! only [vP _ _ e1]
  rw [if_neg (by simp [z3])]
  subst hB
  simp only [bF]
  subst hV
  refine aE fun V hV=>?_
  refine bD fun A B hA hB=>?_
  simp_all! only [vP _ _ e1,vT _ _ e2]
  rcases hcase with ⟨hzy,hf⟩ | ⟨rfl,ts,rfl,htl,hlie,hhls⟩
  ·rw [if_pos (by simp [hzy])]
   subst hA
   simp_all! only [bS]
   unfold hW at q
   rw [hf,if_neg (by decide)] at q
   exact aU q
  ·rw [if_neg (by simp)]
   subst hB
   simp only [bF]
   subst hV
   refine aE fun V hV=>?_
   simp_all! only [bA,hName]
   subst hV
   refine aE fun V hV=>?_
   have hS:(((ps.map Pt.toU).length + 1:Nat):Int) - 1=(ps.length:Int):=by rw [List.length_map];omega
   refine eS (S:=⟨none,eI 1 ps.length⟩) (M1:=M) (fun R r=>by
     simp_all! only [vP _ _ e1]
     refine ⟨⟨by decide,by decide,by omega,by rw [List.length_map];omega⟩,?_⟩
     rw [hS,Int.toNat_natCast];exact r)
    (fun i τ Mj=>∃ z4 z5:Option U,τ=[some p.toU,some t.toU,some (aN pl),some (.lst ((pM pl 0 (ps.take i)).map cV)),z4,z5]/\Mj=M/\(((ps.zip ts).take i).all fun e=>cJ e.1 e.2)=true/\(pM pl 0 (ps.take i)).length<=i * 1024) ⟨none,none,by simp [pM],rfl,by simp,by simp [pM]⟩ nk ?_ ?_
   ·rintro i x τ Mj e ⟨z4,z5,rfl,rfl,hall,hfl⟩
    obtain ⟨rfl,hi⟩:=lY e
    have hit:i < ts.length:=by omega
    have hpi:ps[i]?=some ps[i]:=List.getElem?_eq_getElem hi
    have hti:ts[i]?=some ts[i]:=List.getElem?_eq_getElem hit
    have tkp:ps.take (i + 1)=ps.take i++[ps[i]]:=by rw [List.take_add_one,hpi];rfl
    have hz:(ps.zip ts)[i]?=some (ps[i],ts[i]):=by rw [List.getElem?_zip_eq_some];exact ⟨hpi,hti⟩
    have tkz:(ps.zip ts).take (i + 1)=(ps.zip ts).take i++[(ps[i],ts[i])]:=by rw [List.take_add_one,hz];rfl
    have aP:eL (U.str z :: ps.map Pt.toU) (1 + (i:Int))=some (ps[i]).toU:=by
     have:(1 + (i:Int))=((i + 1:Nat):Int):=by omega
     rw [this]
     exact iE (by rw [List.getElem?_cons_succ,List.getElem?_map,hpi];rfl)
    have aT:eL (U.str z :: ts.map Tr.toU) (1 + (i:Int))=some (ts[i]).toU:=by
     have:(1 + (i:Int))=((i + 1:Nat):Int):=by omega
     rw [this]
     exact iE (by rw [List.getElem?_cons_succ,List.getElem?_map,hti];rfl)
    have hlenI:=oW ps[i] (pl++[i])
    have hdI:=hdp ps[i] (List.getElem_mem hi)
    have hp10:2 ^ (ps[i]).dep<=2 ^ 10:=Nat.pow_le_pow_right (by decide) (by omega)
    simp_all! only [hName]
    refine aE fun V1 hV1=>?_
    simp_all! only [bA,hName,vP _ _ e1,vT _ _ e2,aP,aT]
    have epl:(pl.map fun (n:Nat)=>U.int (n:Int))++[U.int (1 + (i:Int) - 1)]=(pl++[i]).map fun (n:Nat)=>U.int (n:Int):=by
     rw [List.map_append,show 1 + (i:Int) - 1=(i:Int) by omega];rfl
    refine ⟨small (by rw [List.length_map];simp;omega),ps[i],ts[i],pl++[i],by rw [epl];rfl,hdI,by omega,by simp;omega,?_⟩
    cases hl:cJ ps[i] ts[i] with
    | false =>
     have e5:hW ps[i] ts[i] (pl++[i])=.non:=by unfold hW;rw [hl];rfl
     rw [e5]
     subst hV1
     refine aE fun V1 hV1=>?_
     refine bD fun A B hA hB=>?_
     simp_all! only [true_and]
     subst hA
     simp_all! only [bS]
     have hfa:cJ p t=false:=by
      rw [hlie]
      refine Bool.eq_false_iff.mpr fun h=>?_
      have:=List.all_eq_true.mp h (ps[i],ts[i]) (List.mem_of_getElem? hz)
      rw [hl] at this;cases this
     unfold hW at q
     rw [hfa,if_neg (by decide)] at q
     exact aU q
    | true =>
     have e5:hW ps[i] ts[i] (pl++[i])=.lst ((cE ps[i] (pl++[i])).map cV):=by unfold hW;rw [if_pos hl]
     rw [e5]
     subst hV1
     refine aE fun V1 hV1=>?_
     refine bD fun A B hA hB=>?_
     simp_all! only [true_and]
     subst hB
     simp only [bF]
     subst hV1
     simp_all! only [bA,hName]
     have ef:pM pl 0 (ps.take (i + 1))=pM pl 0 (ps.take i)++cE ps[i] (pl++[i]):=by
      rw [tkp,B9,List.length_take,Nat.min_eq_left (Nat.le_of_lt hi),Nat.zero_add]
     refine ⟨small (by rw [List.length_map,List.length_map];omega),some (.int (1 + (i:Int))),some (.lst ((cE ps[i] (pl++[i])).map cV)),?_,?_,?_⟩
     ·rw [ef,List.map_append]
     ·rw [tkz,List.all_append,hall];simp [hl]
     ·rw [ef,List.length_append];omega
   ·rintro τ Mj ⟨z4,z5,rfl,rfl,hall,hfl⟩
    rw [show (Src.mk none (eI 1 ps.length)).xs.length=ps.length from n9 _ _] at *
    rw [List.take_length] at *
    have hz2:(ps.zip ts).length=ps.length:=by rw [List.length_zip,htl,Nat.min_self]
    rw [<- hz2,List.take_length] at hall
    show V _ _
    subst hV
    simp_all! only [bS]
    unfold hW at q
    rw [hlie,if_pos hall,hhls] at q
    exact aU q
theorem GJ (F:cZ K "_law_spots" "_law_spots" m8 f fd) (hm:mg "_law_spots"=some (.ref f)) (nW:mg "int"=none) (dJ:mg "range"=none) (bZ:mg "len"=none):∀ n,Callee P w K mg base (n + 1) "_law_spots" (AR n) []
 | 0=>by
  have no:∀ us M Q,¬ AR 0 us M Q:=fun us M Q h=>by
   obtain ⟨p,_,_,_,h,_⟩:=h
   have:1<=p.dep:=by cases p <;> simp [Pt.dep]
   omega
  refine ⟨f,fd,["pattern","tree","place"],[],[],⟨fun vs H Q E h=>?_,fun A outer s H args us vs Q E _ _ _ _ h=>?_⟩,hm,F.kp,F.binds (wJ fun _ _ _ _ _ _ _ _ _=>rfl),.nil,fun H M=>.nil⟩
  ·obtain ⟨us,M,Q',_,_,h,_⟩:=h;exact absurd h (no us M Q')
  ·obtain ⟨us,M,Q',_,_,h,_⟩:=h;exact absurd h (no us M Q')
 | n + 1=>P9 F hm nW dJ bZ (GJ F hm nW dJ bZ n)
def dG:Tr->List Nat->List (List Nat × Tr)
 | .turn a,pl=>(pl,.turn a) :: dG a (pl++[0])
 | .two o a b,pl=>(pl,.two o a b) :: (dG a (pl++[0])++dG b (pl++[1]))
 | t,pl=>[(pl,t)]
def jU (e:List Nat × Tr):U:=.tup [aN e.1,e.2.toU]
def qD (pl:List Nat):Nat->List Tr->List (List Nat × Tr)
 | _,[]=>[]
 | k,x :: r=>dG x (pl++[k])++qD pl (k + 1) r
theorem CB (pl:List Nat) (a:Tr):∀ (l:List Tr) (k:Nat),qD pl k (l++[a])=qD pl k l++dG a (pl++[k + l.length])
 | [],k=>by simp [qD]
 | x :: l,k=>by
  rw [List.cons_append,qD,qD,CB pl a l (k + 1),List.append_assoc,List.length_cons,show k + 1 + l.length=k + (l.length + 1) by omega]
theorem oU:∀ (t:Tr) (pl:List Nat),(dG t pl).length=t.size
 | .num _,_=>rfl
 | .name _,_=>rfl
 | .turn a,pl=>by simp only [dG,Tr.size,List.length_cons,oU a]
 | .two o a b,pl=>by simp only [dG,Tr.size,List.length_cons,List.length_append,oU a,oU b]
theorem Ex (t:Tr) (pl:List Nat):dG t pl=(pl,t) :: qD pl 0 t.parts:=by cases t <;> simp [dG,qD,Tr.parts]
def sZ (n:Nat):dC:=fun us M Q=>∃ (t:Tr) (pl:List Nat),us=[t.toU,aN pl]/\t.dep<=n/\n<=40/\t.size<=200/\pl.length + n<=1000/\Q (.lst ((dG t pl).map jU)) M
theorem Pb {n:Nat} (F:cZ K "_law_all" "_law_all" p7 f fd) (hm:mg "_law_all"=some (.ref f)) (dJ:mg "range"=none) (bZ:mg "len"=none) (kF:Callee P w K mg base (n + 1) "_law_all" (sZ n) []):Callee P w K mg base (n + 2) "_law_all" (sZ (n + 1)) []:=by
 refine bT F hm nX (uQ fun _ _ _ _ _ _ _ _=>rfl) (aD (aR 2 nX.nd (cR (own:=false) (aA (bG (aA (uv 1) (aA (uv 0) aB))) aB)))
 (aD (bR (bU ME (aQ (uv 0) aI) (bG (aA cM (aA cM aB))))
 (aG (eB (DX dJ (aA aI (aA (fM i9 bZ (aA (uv 0) aB)) aB))) (aZ (k:=1000) 3 nX.nd)
 (aG (aR 2 nX.nd (cX (own:=false) (uv 2) (aM kF (aA (aQ (uv 0) (uv 3)) (aA (cX (own:=false) (uv 1) (bG (aA (iT (uv 3) aI) aB))) aB))))))))
 bC)
 (aG (aW (uv 2))))) ?_
 rintro us M Q ⟨t,pl,rfl,hd,hn,hsz,hpl,q⟩
 refine ⟨rfl,?_⟩
 obtain ⟨z,r,hz,hr2⟩:∃ z r,t.toU=.tup (.str z :: r)/\((t.leafy=true/\(z=Str.ofString "num"\/z=Str.ofString "name"))\/(t.leafy=false/\z≠Str.ofString "num"/\z≠Str.ofString "name"/\r=t.parts.map Tr.toU)):=by
  cases t with
  | num _=>exact ⟨_,_,rfl,.inl ⟨rfl,.inl rfl⟩⟩
  | name _=>exact ⟨_,_,rfl,.inl ⟨rfl,.inr rfl⟩⟩
  | turn a=>exact ⟨_,_,rfl,.inr ⟨rfl,by show Str.ofString "turn"≠Str.ofString "num";decide +kernel,by show Str.ofString "turn"≠Str.ofString "name";decide +kernel,rfl⟩⟩
  | two o a b=>exact ⟨_,_,rfl,.inr ⟨rfl,by show o.word≠Str.ofString "num";cases o <;> decide +kernel,by show o.word≠Str.ofString "name";cases o <;> decide +kernel,rfl⟩⟩
 have vT:∀ M':aF,view M' t.toU=.tup (.str z :: r):=fun M'=>by rw [hz];rfl
 refine aE fun V hV=>?_
 simp_all! only [bA,hName]
 have e0:U.lst [U.tup [aN pl,t.toU]]=.lst (((pl,t) :: qD pl 0 (t.parts.take 0)).map jU):=rfl
 rw [e0]
 subst hV
 refine aE fun V hV=>?_
 refine bD fun A B hA hB=>?_
 simp_all! only [vT]
 refine ⟨rfl,rfl,?_⟩
 have hany:([U.str (Str.ofString "num"),U.str (Str.ofString "name")].any fun u=>uV u (.str z))=decide (z=Str.ofString "num"\/z=Str.ofString "name"):=by
  have:=L6 [Str.ofString "num",Str.ofString "name"] z
  rw [show [U.str (Str.ofString "num"),U.str (Str.ofString "name")]=[Str.ofString "num",Str.ofString "name"].map U.str from rfl,this]
  simp
 rw [hany]
 rcases hr2 with ⟨hl,hw⟩ | ⟨hl,w1,w2,rfl⟩
 ·rw [if_neg (by simp [hw])]
  subst hB
  simp only [bF]
  subst hV
  simp_all! only [bS]
  rw [Ex,wU hl] at q
  exact aU q
 ·rw [if_pos (by simp [w1,w2])]
  subst hA
  have hS:(((t.parts.map Tr.toU).length + 1:Nat):Int) - 1=(t.parts.length:Int):=by rw [List.length_map];omega
  have hp2:t.parts.length<=2:=by cases t <;> simp [Tr.parts]
  refine eS (S:=⟨none,eI 1 t.parts.length⟩) (M1:=M) (fun R r=>by
    simp_all! only [vT]
    refine ⟨⟨by decide,by decide,by omega,by rw [List.length_map];omega⟩,?_⟩
    rw [hS,Int.toNat_natCast];exact r)
   (fun i τ Mj=>∃ z3:Option U,τ=[some t.toU,some (aN pl),some (.lst (((pl,t) :: qD pl 0 (t.parts.take i)).map jU)),z3]/\Mj=M/\(qD pl 0 (t.parts.take i)).length<=i * 200) ⟨none,rfl,rfl,by simp [qD]⟩ nk ?_ ?_
  ·rintro i x τ Mj e ⟨z3,rfl,rfl,hfl⟩
   obtain ⟨rfl,hi⟩:=lY e
   have hpi:t.parts[i]?=some t.parts[i]:=List.getElem?_eq_getElem hi
   have tkp:t.parts.take (i + 1)=t.parts.take i++[t.parts[i]]:=by rw [List.take_add_one,hpi];rfl
   have aT:eL (U.str z :: t.parts.map Tr.toU) (1 + (i:Int))=some (t.parts[i]).toU:=by
    have:(1 + (i:Int))=((i + 1:Nat):Int):=by omega
    rw [this]
    exact iE (by rw [List.getElem?_cons_succ,List.getElem?_map,hpi];rfl)
   have h1:=A4 hpi
   have h2:=zV hpi
   have epl:(pl.map fun (n:Nat)=>U.int (n:Int))++[U.int (1 + (i:Int) - 1)]=(pl++[i]).map fun (n:Nat)=>U.int (n:Int):=by
    rw [List.map_append,show 1 + (i:Int) - 1=(i:Int) by omega];rfl
   have ef:qD pl 0 (t.parts.take (i + 1))=qD pl 0 (t.parts.take i)++dG t.parts[i] (pl++[i]):=by
    rw [tkp,CB,List.length_take,Nat.min_eq_left (Nat.le_of_lt hi),Nat.zero_add]
   have hlen:=oU t.parts[i] (pl++[i])
   simp_all! only [hName,bA,vT,aT]
   refine ⟨small (by rw [List.length_map];simp;omega),t.parts[i],pl++[i],by rw [epl];rfl,by omega,by omega,by omega,by simp;omega,?_⟩
   simp_all! only [true_and]
   refine ⟨small (by simp only [List.length_cons,List.length_map];omega),some (.int (1 + (i:Int))),?_,?_⟩
   ·rw [ef,<- List.map_append]
   ·rw [ef,List.length_append];omega
  ·rintro τ Mj ⟨z3,rfl,rfl,hfl⟩
   rw [show (Src.mk none (eI 1 t.parts.length)).xs.length=t.parts.length from n9 _ _] at *
   rw [List.take_length,<- Ex]
   show V _ _
   subst hV
   simp_all! only [bS]
   exact aU q
theorem D0 (F:cZ K "_law_all" "_law_all" p7 f fd) (hm:mg "_law_all"=some (.ref f)) (dJ:mg "range"=none) (bZ:mg "len"=none):∀ n,Callee P w K mg base (n + 1) "_law_all" (sZ n) []
 | 0=>by
  have no:∀ us M Q,¬ sZ 0 us M Q:=fun us M Q h=>by
   obtain ⟨p,_,_,h,_⟩:=h
   have:1<=p.dep:=by cases p <;> simp [Tr.dep]
   omega
  refine ⟨f,fd,["tree","place"],[],[],⟨fun vs H Q E h=>?_,fun A outer s H args us vs Q E _ _ _ _ h=>?_⟩,hm,F.kp,F.binds (uQ fun _ _ _ _ _ _ _ _=>rfl),.nil,fun H M=>.nil⟩
  ·obtain ⟨us,M,Q',_,_,h,_⟩:=h;exact absurd h (no us M Q')
  ·obtain ⟨us,M,Q',_,_,h,_⟩:=h;exact absurd h (no us M Q')
 | n + 1=>Pb F hm dJ bZ (D0 F hm dJ bZ n)
end
end K28
namespace PySem
open Sem (wp)
section
variable {prog:Program} {w:World} {A:Around} {E:Value->Shared->Prop} {K:Type} [DecidableEq K] {knd:HeapKind prog w K}
def nS (knd:HeapKind prog w K) (h:Heap) (d:Addr) (xs:List (K × Addr × Value)):Prop:=∃ o es ep,h.get? d=some o/\o.ExactDict/\o.data=.dict es ep/\es.toList=xs.map (entryOfKey knd)/\(xs.map (·.1)).Nodup
theorem nS.of {h:Heap} {d:Addr} {xs:List (K × Addr × Value)} (r:nS knd h d xs) (k:∀ x∈xs,knd.is h x.1 x.2.1):h.DictOfH knd d xs:=let ⟨o,es,ep,a,b,c,e,f⟩:=r;⟨o,es,ep,a,b,c,e,k,f⟩
theorem nS.to {h:Heap} {d:Addr} {xs:List (K × Addr × Value)} (r:h.DictOfH knd d xs):nS knd h d xs:=let ⟨o,es,ep,a,b,c,e,_,f⟩:=r;⟨o,es,ep,a,b,c,e,f⟩
theorem DH {xs:List (K × Addr × Value)} {k:K} {a:Addr} {v:Value} {x:K × Addr × Value} (h:x∈storedH xs k a v):(∃ y∈xs,y.1=x.1/\y.2.1=x.2.1)\/(x.1=k/\x.2.1=a):=by
 unfold storedH at h
 split at h
 ·obtain ⟨y,hy,rfl⟩:=List.mem_map.mp h
  refine .inl ⟨y,hy,?_⟩
  unfold putAt
  split <;> exact ⟨rfl,rfl⟩
 ·rcases List.mem_append.mp h with h | h
  ·exact .inl ⟨x,h,rfl,rfl⟩
  ·cases List.mem_singleton.mp h;exact .inr ⟨rfl,rfl⟩
theorem Dg (xs:List (K × Addr × Value)) (k:K) (a:Addr) (v:Value):(storedH xs k a v).length<=xs.length + 1:=by
 unfold storedH
 split
 ·rw [List.length_map];omega
 ·rw [List.length_append];simp
theorem yL {R:Result->Shared->Prop} (hh:A.handled=none) (hr:∀ args,knd.room (A.under (.builtin "dict.update.loop" args))) (D it l:Addr) (hl:l≠it) (hD:D≠it) (items:Array Value) (rs:List (K × Addr × Value)) (hlen:rs.length=items.size) (hsz:items.size<=sizeLine)
  (hp:Heap->Prop) (hpk:∀ h h':Heap,hp h->(∀ b o,b≠D->b≠it->h.get? b=some o->h'.get? b=some o)->hp h') (hkey:∀ h,hp h->∀ x∈rs,knd.is h x.1 x.2.1) (hpair:∀ h,hp h->h.IsList l items/\∀ (i:Nat) x k b v,items[i]?=some x->rs[i]?=some (k,b,v)->∃ p,x=.ref p/\h.IsTuple p #[.ref b,v]) :
  ∀ (n i:Nat) (s:Shared) (vs:List (K × Addr × Value)),i + n=items.size->s.heap.IsListIter it l i->hp s.heap->nS knd s.heap D vs->(∀ x∈vs,∃ y∈rs,y.1=x.1/\y.2.1=x.2.1)->vs.length<=i ->
   (∀ h' t',(∀ b o,b≠D->b≠it->s.heap.get? b=some o->h'.get? b=some o)->nS knd h' D ((rs.drop i).foldl (fun m e=>storedH m e.1 e.2.1 e.2.2) vs)->R (.ok (.ret .none)) { s with heap:=h',toks:=t' }) ->
   codeAny (model prog w) A (.builtin "dict.update.loop" ⟨[.ref D,.ref it,rawInt i,.none],[]⟩) R s
 | 0,i,s,vs,hi,hit,hP,hd,hsub,hvl,hq=>by
  refine codeAny_builtin (entryFor_of_tree (by kernel_rfl):entryFor table "dict.update.loop"=some Builtin.«dict.update.loop») ?_
  show wpAny _ _ (pyNext (.ref it) >>= _) _ _ _
  have hx:items[i]?=none:=by simp;omega
  refine wpAny_bind (wpAny_pyNext_list_end (show (A.under _).handled=none from hh) hit (hpair _ hP).1 hx fun h' he=>?_)
  show wpAny _ _ (Builtin.Dict.addKeywords D [] >>= _) _ _ _
  refine wpAny_bind (wpAny_pure (wpAny_pure ?_))
  refine hq h' s.toks (fun b o _ hb e=>he b o hb e) ?_
  rw [List.drop_of_length_le (by omega)]
  obtain ⟨o,es,ep,ho,r⟩:=hd
  exact ⟨o,es,ep,he _ _ hD ho,r⟩
 | n + 1,i,s,vs,hi,hit,hP,hd,hsub,hvl,hq=>by
  refine codeAny_builtin (entryFor_of_tree (by kernel_rfl):entryFor table "dict.update.loop"=some Builtin.«dict.update.loop») ?_
  show wpAny _ _ (pyNext (.ref it) >>= _) _ _ _
  have hlt:i < items.size:=by omega
  have hx:items[i]?=some items[i]:=by simp [hlt]
  have hr0:rs[i]?=some rs[i]:=by simp [show i < rs.length by omega]
  refine wpAny_bind (wpAny_pyNext_list_item hit (hpair _ hP).1 hx fun h1 hit1 hs1=>?_)
  have k1:∀ b o,b≠D->b≠it->s.heap.get? b=some o->h1.get? b=some o:=fun b o _ hb e=>hs1.extBut b o hb e
  have hP1:=hpk _ _ hP k1
  obtain ⟨p1,ep1,hpt1⟩:=(hpair _ hP1).2 i _ rs[i].1 rs[i].2.1 rs[i].2.2 hx hr0
  have B7:nS knd h1 D vs:=by
   obtain ⟨o,es,ep,ho,r⟩:=hd
   exact ⟨o,es,ep,hs1.extBut _ _ hD ho,r⟩
  have hD1:h1.DictOfH knd D vs:=B7.of fun x hx=>by
   obtain ⟨y,hy,e1,e2⟩:=hsub x hx
   rw [<- e1,<- e2];exact hkey _ hP1 y hy
  rw [ep1]
  dsimp only
  refine wpAny_bind ?_
  refine wpAny_holding ?_
  unfold Builtin.Dict.pairItems
  obtain ⟨o1,ho1,hc1,m1,hd1'⟩:=hpt1
  refine wpAny_bind (wpAny_tryCatch ?_)
  refine wpAny_bind (wpAny_typeOf (⟨_,ho1,hc1⟩:(⟨h1,s.gens,s.drawn,s.toks,s.os⟩:Shared).TypeIs (.ref p1) "tuple") ?_)
  rw [if_pos (by decide)]
  refine wpAny_bind (wpAny_seqItems ho1 hd1' (wpAny_pure ?_))
  show wpAny _ _ (holding [.ref rs[i].2.1,rs[i].2.2] (dictSet D (.ref rs[i].2.1) rs[i].2.2)) _ _ _
  refine wpAny_holding (wpAny_dictSet_heap (knd:=knd) (hr _) (hkey _ hP1 _ (List.getElem_mem (show i < rs.length by omega))) hD1 (fun h2 hd2 hs2=>?_) (by omega))
  have k2:∀ b o,b≠D->b≠it->s.heap.get? b=some o->h2.get? b=some o:=fun b o hb hb' e=>hs2.extBut b o hb (k1 b o hb hb' e)
  have hit2:h2.IsListIter it l (i + 1):=hit1.at fun o e=>hs2.extBut it o hD.symm e
  refine wpAny_pure ⟨Code.quiet_builtin _ (by decide +kernel),?_⟩
  have hst:(storedH vs rs[i].1 rs[i].2.1 rs[i].2.2).length<=i + 1:=by
   have:=Dg vs rs[i].1 rs[i].2.1 rs[i].2.2
   omega
  have hcast:rawInt ((i:Int) + 1)=rawInt ((i + 1:Nat):Int):=by push_cast;rfl
  rw [hcast]
  refine yL hh hr D it l hl hD items rs hlen hsz hp hpk hkey hpair n (i + 1) _ _ (by omega) hit2 (hpk _ _ hP k2) (nS.to hd2) (fun x hx=>?_) hst fun h' t' kk dd=>?_
  ·rcases DH hx with ⟨y,hy,e1,e2⟩ | ⟨e1,e2⟩
   ·obtain ⟨z,hz,f1,f2⟩:=hsub y hy
    exact ⟨z,hz,f1.trans e1,f2.trans e2⟩
   ·exact ⟨rs[i],List.getElem_mem (show i < rs.length by omega),e1.symm,e2.symm⟩
  ·refine hq h' t' (fun b o hb hb' e=>kk b o hb hb' (k2 b o hb hb' e)) ?_
   rw [List.drop_eq_getElem_cons (show i < rs.length by omega),List.foldl_cons]
   exact dd
theorem w9 {s:Shared} {Q:Value->Shared->Prop} (hh:A.handled=none) (hr:∀ args,knd.room (A.in1.under (.builtin "dict.update.loop" args))) {l:Addr} {items:Array Value} {n:Nat} {sl:Array (Option Value)} (rs:List (K × Addr × Value))
  (hx:s.heap.get? l=some { cls:=.type "list",dict:=none,data:=.seq items n,slots:=sl }) (hlen:rs.length=items.size) (hsz:items.size<=sizeLine)
  (hkey:∀ h:Heap,(∀ b o,s.heap.get? b=some o->h.get? b=some o)->∀ x∈rs,knd.is h x.1 x.2.1)
  (hpair:∀ (i:Nat) x k b v,items[i]?=some x->rs[i]?=some (k,b,v)->∃ p,x=.ref p/\s.heap.IsTuple p #[.ref b,v])
  (hq:∀ h' t',(∀ b o,s.heap.get? b=some o->h'.get? b=some o)->nS knd h' s.heap.objs.size (rs.foldl (fun m e=>storedH m e.1 e.2.1 e.2.2) [])->Q (.ref s.heap.objs.size) { s with heap:=h',toks:=t' }) :
  wpAny (model prog w) A (call (.type "dict") [.ref l]) Q E s:=by
 refine callType_codes (Q₁:=fun obj s₁=>obj=.ref s.heap.objs.size/\s₁={ s with heap:=s.heap.push { cls:=.type "dict",data:=.dict #[] } }) F.kt_called_dict (F.kt_typeCall_dict_1 _) F.entry_dict_init (kt_code_dict_new _ ⟨rfl,rfl⟩) ?_
 rintro obj s₁ ⟨rfl,rfl⟩
 have hnew:nS knd (s.heap.push { cls:=.type "dict",data:=.dict #[] }) s.heap.objs.size []:=nS.to (Heap.DictOfH.new s.heap)
 have htp:({ s with heap:=s.heap.push { cls:=.type "dict",data:=.dict #[] } }:Shared).TypeIs (.ref s.heap.objs.size) "dict":=Heap.DictOfH.typeIs (knd:=knd) (s:={ s with heap:=s.heap.push { cls:=.type "dict",data:=.dict #[] } }) (Heap.DictOfH.new s.heap)
 have hl1:(s.heap.push { cls:=.type "dict",data:=.dict #[] }).get? l=some _:=Heap.get?_push_of_some _ hx
 have hk0:∀ b o,s.heap.get? b=some o->(s.heap.push { cls:=.type "dict",data:=.dict #[] }).get? b=some o:=fun b o e=>Heap.get?_push_of_some _ e
 have hD0:∀ b o,s.heap.get? b=some o->b≠s.heap.objs.size:=fun b o e=>Nat.ne_of_lt (Heap.lt_size e)
 generalize (s.heap.push { cls:=.type "dict",data:=.dict #[] })=h0 at hnew htp hl1 hk0 ⊢
 generalize hDD:s.heap.objs.size=D at *
 refine ⟨htp,F.args_dict_init_2 _ _,?_⟩
 unfold Builtin.«dict.__init__»
 refine wpAny_bind ?_
 unfold Builtin.Dict.selfAndRest
 refine wpAny_bind (wpAny_notOrdered_dict htp ?_)
 show wpAny _ _ (pure (D,[Value.ref l])) _ _ _
 refine wpAny_pure ?_
 show wpAny _ _ (Builtin.Dict.updateFrom "dict.__init__" D (.ref l) [] .none) _ _ _
 unfold Builtin.Dict.updateFrom
 refine wpAny_bind (wpAny_typeOf (⟨_,hl1,rfl⟩:(⟨h0,s.gens,s.drawn,s.toks,s.os⟩:Shared).TypeIs (.ref l) "list") ?_)
 rw [if_pos (by decide)]
 refine wpAny_bind (Dr (show (A.in1).handled=none from hh) hl1 fun h1 t1 hk1=>?_)
 simp only [Option.isNone_none,if_true]
 have hL1:(⟨h1,s.gens,s.drawn,t1,s.os⟩:Shared).heap.IsList l items:=⟨_,hk1 _ _ hl1,rfl,n,rfl⟩
 refine wpAny_bind (wpAny_rule (wpAny_bind (wpAny_pyIter_list hL1 (wpAny_pure ⟨Code.quiet_builtin _ (by decide +kernel),?_⟩))))
 have hltl:l < h1.objs.size:=Heap.lt_size (hk1 _ _ hl1)
 have hDlt:D < h1.objs.size:=by
  obtain ⟨o,es,ep,ho,_⟩:=hnew
  exact Heap.lt_size (hk1 _ _ ho)
 have hall:∀ b o,s.heap.get? b=some o->(h1.push { cls:=.type "list_iterator",data:=.fields #[.ref l,.int 0 0] }).get? b=some o:=fun b o e=>Heap.get?_push_of_some _ (hk1 _ _ (hk0 _ _ e))
 have hdd:nS knd (h1.push { cls:=.type "list_iterator",data:=.fields #[.ref l,.int 0 0] }) D []:=by
  obtain ⟨o,es,ep,ho,r⟩:=hnew
  exact ⟨o,es,ep,Heap.get?_push_of_some _ (hk1 _ _ ho),r⟩
 have hit:(h1.push { cls:=.type "list_iterator",data:=.fields #[.ref l,.int 0 0] }).IsListIter h1.objs.size l 0:=⟨_,Heap.get?_push_size _ rfl,rfl,rfl⟩
 have hnit:∀ b o,s.heap.get? b=some o->b≠h1.objs.size:=fun b o e=>Nat.ne_of_lt (Heap.lt_size (hk1 _ _ (hk0 _ _ e)))
 refine yL (A:=A.in1) (knd:=knd) (show (A.in1).handled=none from hh) hr D h1.objs.size l (Nat.ne_of_lt hltl) (Nat.ne_of_lt hDlt) items rs hlen hsz (fun h=>∀ b o,s.heap.get? b=some o->h.get? b=some o)
  (fun h h' a k b o e=>k b o (hD0 b o e) (hnit b o e) (a b o e)) (fun h a=>hkey h a) (fun h a=>⟨⟨_,a _ _ hx,rfl,n,rfl⟩,fun i x k b v e e'=>?_⟩) items.size 0 _ [] (by omega) hit hall hdd (fun x hx=>by cases hx) (Nat.le_refl _) fun h' t' kk dd=>?_
 ·obtain ⟨p,e1,⟨o,e2,r⟩⟩:=hpair i x k b v e e'
  exact ⟨p,e1,⟨o,a _ _ e2,r⟩⟩
 ·refine ⟨rfl,hq h' t' (fun b o e=>kk b o (hD0 b o e) (hnit b o e) (hall b o e)) ?_⟩
  rw [List.drop_zero] at dd
  exact dd
end
end PySem
namespace L2
open PySem PySem.Spec PyProof.Rows
def mergeT (kvs more:List (List Key × V)):List (List Key × V):=more.foldl (fun acc kv=>putK acc kv.1 kv.2) kvs
theorem uR:∀ (more kvs:List (List Key × V)),(mergeT kvs more).length<=kvs.length + more.length
 | [],kvs=>by simp [mergeT]
 | a :: r,kvs=>by
  have h1:=uR r (putK kvs a.1 a.2)
  have h2:=nA kvs a.1 a.2
  show (mergeT (putK kvs a.1 a.2) r).length<=_
  rw [List.length_cons];omega
theorem jR.merge {H:Hp}:∀ {more:List (List Key × V)} {rs:List (List Key × Addr × Value)} {kvs:List (List Key × V)} {vs:List (List Key × Addr × Value)},jR H more rs->jR H kvs vs->jR H (mergeT kvs more) (rs.foldl (fun m e=>storedH m e.1 e.2.1 e.2.2) vs)
 | [],_,_,_,.nil,r=>r
 | p :: more,q :: rs,kvs,vs,.cons h t,r=>by
  obtain ⟨h1,h2,h3⟩:=h
  show jR H (mergeT (putK kvs p.1 p.2) more) (rs.foldl _ (storedH vs q.1 q.2.1 q.2.2))
  rw [<- h1]
  exact jR.merge t (r.put p.1 h2 h3)
theorem HR {A:Around} {args:Args}:(A.in1.under (.builtin "dict.update.loop" args)).units<=A.units + 3:=by
 first
  | (show A.units + 1<=_;omega)
  | (simp [Around.under,Around.in1,Code.cUnits,Code.frames,Code.isFrame];try omega)
theorem EW {X:Cx} {k:Nat} (hc:X.calm=true) (hr:eN k X.A):lF X (.type "dict") (fun xs H Q=>∃ (a:Addr) (ps:List V) (kvs:List (List Key × V)),xs=[V.ref a]/\dY X.K H a ps/\ps.length=kvs.length /\
  (∀ (i:Nat) (p:V) (kv:List Key × V),ps[i]?=some p->kvs[i]?=some kv->∃ b c,p=.ref b/\eW X.K H b [.ref c,kv.2]/\H c=some (.tup (kv.1.map kV)))/\∀ q,H q=none->Q (.ref q) (upd H q (.dT (mergeT [] kvs)))):=by
 intro pins s σ H xs us Q I r h
 obtain ⟨a,ps,kvs,rfl,ha,hl,hp,q⟩:=h
 obtain ⟨u,rfl,ru⟩:=vals1 r
 cases ru
 obtain ⟨its,rv,⟨o,n,ho,hcl,hdi,hda⟩,hz⟩:=I.list ha
 have hob:o={ cls:=.type "list",dict:=none,data:=.seq its.toArray n,slots:=o.slots }:=by
  obtain ⟨c,d,da,sl⟩:=o
  cases hcl;cases hdi;cases hda;rfl
 rw [hob] at ho
 have one:∀ (i:Nat) (x:Value) (kv:List Key × V),its[i]?=some x->kvs[i]?=some kv->∃ p c v,x=.ref p/\s.heap.IsTuple p #[.ref c,v]/\H c=some (.tup (kv.1.map kV))/\RelV kv.2 v:=fun i x kv e e'=>by
  obtain ⟨z,e2⟩:∃ z,ps[i]?=some z:=by
   have:i < ps.length:=by rw [hl];exact (List.getElem?_eq_some_iff.mp e').1
   exact ⟨ps[i],by simp [this]⟩
  obtain ⟨b,c,rfl,hb,hcc⟩:=hp i z kv e2 e'
  obtain ⟨x',e3,rx⟩:=rv.get e2
  rw [e] at e3;cases e3
  cases rx
  obtain ⟨its2,rv2,pt,_⟩:=I.tuple hb
  obtain ⟨u,v,rfl,r1,r2⟩:=vals2 rv2
  cases (show u=Value.ref c from r1)
  exact ⟨b,c,v,rfl,pt,hcc,r2⟩
 have hlen:=rv.length
 have mk:∃ rs:List (List Key × Addr × Value),jR H kvs rs/\rs.length=its.length/\∀ (i:Nat) x k b v,its[i]?=some x->rs[i]?=some (k,b,v)->∃ p,x=.ref p/\s.heap.IsTuple p #[.ref b,v]:=by
  have go:∀ (kvs:List (List Key × V)) (its:List Value),kvs.length=its.length->(∀ (i:Nat) (x:Value) (kv:List Key × V),its[i]?=some x->kvs[i]?=some kv->∃ p c v,x=.ref p/\s.heap.IsTuple p #[.ref c,v]/\H c=some (.tup (kv.1.map kV))/\RelV kv.2 v) ->
    ∃ rs:List (List Key × Addr × Value),jR H kvs rs/\rs.length=its.length/\∀ (i:Nat) x k b v,its[i]?=some x->rs[i]?=some (k,b,v)->∃ p,x=.ref p/\s.heap.IsTuple p #[.ref b,v]:=by
   intro kvs
   induction kvs with
   | nil=>intro its hl _;cases its with
    | nil=>exact ⟨[],.nil,rfl,fun i x k b v e=>by simp at e⟩
    | cons a b=>cases hl
   | cons kv r ih=>intro its hl hh;cases its with
    | nil=>cases hl
    | cons x xs =>
     obtain ⟨p,c,v,rfl,pt,r1,r2⟩:=hh 0 x kv rfl rfl
     obtain ⟨rs,k1,k2,k3⟩:=ih xs (by simpa using hl) fun i x kv e e'=>hh (i + 1) x kv (by simpa using e) (by simpa using e')
     refine ⟨(kv.1,c,v) :: rs,.cons ⟨rfl,r1,r2⟩ k1,by simp [k2],fun i x k b w e e'=>?_⟩
     cases i with
     | zero=>cases e;cases e';exact ⟨p,rfl,pt⟩
     | succ i=>exact k3 i x k b w (by simpa using e) (by simpa using e')
  exact go kvs its (by omega) one
 obtain ⟨rs,rk,rl,rp⟩:=mk
 have all:∀ {l:List (List Key × V)} {m:List (List Key × Addr × Value)},jR H l m->∀ x∈m,(tupleKind (cF X.prog X.w)).is s.heap x.1 x.2.1:=by
  intro l m q
  induction q with
  | nil=>intro x hx;exact nomatch hx
  | @cons p q ps qs hq t ih =>
   intro x hx
   rcases List.mem_cons.mp hx with e | hx
   ·subst e
    exact pN I.hok (by rw [<- hq.1];exact hq.2.1)
   ·exact ih x hx
 refine w9 (knd:=tupleKind (cF X.prog X.w)) (I.ok.hd hc) (fun args=>by
   show (X.A.in1.under (.builtin "dict.update.loop" args)).units < cLine
   have h1:=HR (A:=X.A) (args:=args)
   have h2:=hr.units
   omega) rs ho (by simpa using rl) (by simp;omega) (fun h' kp x hx=>?_) (fun i x k b v e e'=>rp i x k b v (by simpa using e) e') fun h' t' kp dd=>?_
 ·obtain ⟨o,items,n,e1,e2⟩:=all rk x hx
  exact ⟨o,items,n,kp _ _ e1,e2⟩
 ·have hfr:H s.heap.objs.size=none:=I.hok.fresh (Nat.le_refl _)
  obtain ⟨o,es,ep,d1,d2,d3,d4,d5⟩:=dd
  refine ⟨.ref s.heap.objs.size,_,I.laid (t':=t') kp (Nat.le_refl _) (show cK X.prog X.w _ h' _ (.dT (mergeT [] kvs)) from ⟨?_,?_,_,(jR.merge rk .nil).keeps fun b ys e=>?_,o,es,ep,d1,d2,d3,d4,d5⟩),rfl,q _ hfr⟩
  ·have:=uR kvs []
   simp at this
   omega
  ·have:=I.big
   simp only [beq_eq_false_iff_ne]
   exact Nat.ne_of_gt this
  ·rw [bL (cN e hfr)];exact e
end L2
namespace U2
open PySem PySem.Spec PyProof.Rows L2
def lM (kvs more:List (List Key × U)):List (List Key × U):=more.foldl (fun acc kv=>gI acc kv.1 kv.2) kvs
def CO:List U->aF->UK->Prop:=fun us M Q=>match us with
 | [x]=>match view M x with
  | .lst es=>∃ kvs:List (List Key × U),es=kvs.map (fun e=>.tup [.tup (e.1.map kU),e.2])/\∀ p,M p=none->Q (.ref p) (mup M p (.dT (lM [] kvs)))
  | _=>False
 | _=>False
theorem cO.mergeT {K:PySem.W.Frag} {H:Hp} {M:aF}:∀ {more:List (List Key × U)} {ws:List (List Key × V)} {kvs:List (List Key × U)} {vs:List (List Key × V)},cO K H M more ws->cO K H M kvs vs->cO K H M (lM kvs more) (L2.mergeT vs ws)
 | [],_,_,_,.nil,r=>r
 | p :: more,q :: ws,kvs,vs,.cons h t,r=>by
  obtain ⟨h1,h2⟩:=h
  show cO K H M (lM (gI kvs p.1 p.2) more) (L2.mergeT (putK vs q.1 q.2) ws)
  rw [<- h1]
  exact cO.mergeT t (r.put p.1 h2)
theorem zB {K:PySem.W.Frag} {H:Hp} {M:aF}:∀ {kvs:List (List Key × U)} {vs:List V},aK K H M (kvs.map fun e=>U.tup [.tup (e.1.map kU),e.2]) vs ->
  ∃ ws:List (List Key × V),cO K H M kvs ws/\vs.length=ws.length/\∀ (i:Nat) (p:V) (kv:List Key × V),vs[i]?=some p->ws[i]?=some kv->∃ b c,p=.ref b/\eW K H b [.ref c,kv.2]/\H c=some (.tup (kv.1.map kV))
 | [],vs,r=>by
  have:=r.length
  simp at this
  cases vs with
  | nil=>exact ⟨[],.nil,rfl,fun i p kv e=>by simp at e⟩
  | cons a b=>cases this
 | e :: kvs,vs,r=>by
  rw [List.map_cons] at r
  obtain ⟨v,vs',rfl,a,b⟩:=r.inv_cons
  obtain ⟨ws,k1,k2,k3⟩:=zB b
  obtain ⟨b0,zvs,rfl,s2,r2⟩:=a.tup
  obtain ⟨v1,r',rfl,a1,b1⟩:=r2.inv_cons
  obtain ⟨v2,rfl,a2⟩:=b1.one
  obtain ⟨c,rfl,hc⟩:=vM (show jS K from True.intro) a1 (BV e.1)
  refine ⟨(e.1,v2) :: ws,.cons ⟨rfl,a2⟩ k1,by simp [k2],fun i p kv h h'=>?_⟩
  cases i with
  | zero=>cases h;cases h';exact ⟨b0,c,rfl,s2,hc⟩
  | succ i=>exact k3 i p kv (by simpa using h) (by simpa using h')
theorem MB {D:Dat}:u3 D (.type "dict") CO:=⟨⟨_,fun X h=>by have:=EW (X:=X) h.calm h.room;rw [h.K] at this;exact this,fun xs us H M Q' rm rus h Q c=>by
 unfold CO at h
 split at h
 ·rename_i x
  obtain ⟨v,rfl,a1⟩:=rus.one
  split at h
  ·rename_i es e
   obtain ⟨kvs,rfl,h⟩:=h
   obtain ⟨a,vs,rfl,s1,r1⟩:=dZ rm a1 e
   obtain ⟨ws,k1,k2,k3⟩:=zB r1
   refine ⟨a,vs,ws,rfl,s1,k2,k3,fun p hp=>?_⟩
   have st:aS H M (upd H p (.dT (L2.mergeT [] ws))) (mup M p (.dT (lM [] kvs))):=aS.own rm hp
   exact c (.ref p) _ _ _ st (rm.put st ⟨_,cT,(cO.mergeT k1 .nil).stp st⟩) lI (h p (rm.no hp))
  ·exact h.elim
 ·exact h.elim⟩⟩
end U2
namespace K28
open PySem L2 U2
section
variable {P:Program} {w:World} {K:PySem.W.Frag} {mg:Str->Option Value} {base:Heap} {f d d2 fl:Addr} {fd:FuncData}
def qR (cs:List Str) (vs:VS) (p:List Nat):U:=.tup (cs.map fun c=>eO (aY vs (p,c)))
def eU (ps:List (List Nat)) (cs:List Str) (vs:VS):List (List Key × U):=ps.map fun p=>(pk p,qR cs vs p)
theorem zH {ps:List (List Nat)} {cs:List Str} {vs:VS} {p:List Nat} (hp:p∈ps):cU (eU ps cs vs) (pk p)=some (qR cs vs p):=by
 induction ps with
 | nil=>cases hp
 | cons a r ih =>
  unfold eU
  rw [List.map_cons]
  by_cases e:a=p
  ·subst e;exact jV rfl
  ·rw [mW (fun z=>e (yJ z))]
   exact ih ((List.mem_cons.mp hp).resolve_left fun z=>e z.symm)
theorem strs_map (cs:List Str):sG (cs.map U.str)=some cs:=by
 induction cs with
 | nil=>rfl
 | cons a r ih=>rw [List.map_cons];simp [sG,ih]
def kB:List Str->Str->Nat
 | [],_=>0
 | a :: r,c=>if a=c then 0 else kB r c + 1
theorem rF:∀ {cs:List Str} {c:Str},c∈cs->cs[kB cs c]?=some c/\(∀ m z,m < kB cs c->cs[m]?=some z->z≠c)/\kB cs c < cs.length
 | a :: r,c,h=>by
  unfold kB
  by_cases e:a=c
  ·rw [if_pos e]
   exact ⟨by rw [e];rfl,fun m z hm=>by omega,by simp⟩
  ·rw [if_neg e]
   obtain ⟨h1,h2,h3⟩:=rF (cs:=r) (c:=c) ((List.mem_cons.mp h).resolve_left fun z=>e z.symm)
   refine ⟨by simpa using h1,fun m z hm hz=>?_,by simp;omega⟩
   cases m with
   | zero=>cases hz;exact e
   | succ m=>exact h2 m z (by omega) (by simpa using hz)
theorem zI {cs:List Str} {vs:VS} {p:List Nat} {c:Str} (h:c∈cs):eL (cs.map fun c=>eO (aY vs (p,c))) ((kB cs c:Nat):Int)=some (eO (aY vs (p,c))):=by
 refine iE ?_
 rw [List.getElem?_map,(rF h).1];rfl
def yI (co:Int):Option Int->U
 | some w=>.int (co + w)
 | none=>.non
def E1:dC:=fun us M Q=>∃ (cs:List Str) (tls:List Tl) (tl:Tl) (sp:List (List Nat × Str)) (x:U) (ps:List (List Nat)) (vs:VS),us=[iD cs tls,tl.toU,.lst (sp.map cV),x]/\iZ M x=some (.dT (eU ps cs vs))/\cs.length<=6/\(∀ s∈sp,s.1∈ps/\s.2∈cs)/\Q (yI tl.cost (bO (aY vs) sp)) M
theorem C7 {f:List Nat × Str->Option Int}:∀ (a:List (List Nat × Str)) (s:List Nat × Str) (w:Int),bO f a=some w->bO f (a++[s])=(f s).map fun v=>w + v
 | [],s,w,h=>by
  have:w=0:=(Option.some.inj h).symm
  subst this
  show bO f [s]=_
  cases e:f s with
  | none=>simp [bO,e]
  | some v=>simp [bO,e]
 | b :: a,s,w,h=>by
  obtain ⟨x,y,h1,h2,rfl⟩:=iF h
  have ih:=C7 a s y h2
  rw [List.cons_append]
  cases e:f s with
  | none =>
   rw [e] at ih
   simp only [bO,h1,ih,Option.map_none]
  | some v =>
   rw [e] at ih
   rw [qA h1 ih]
   simp;omega
theorem Dy {f:List Nat × Str->Option Int} {l:List (List Nat × Str)} {s:List Nat × Str} (hs:s∈l) (h:f s=none):bO f l=none:=by
 cases e:bO f l with
 | none=>rfl
 | some w=>obtain ⟨a,ha⟩:=tZ e s hs;rw [h] at ha;cases ha
local macro_rules | `(tactic| simp_all! only [$xs,*]) => `(tactic| simp only [$xs,*, Bool.false_eq_true, Bool.not_false, Bool.not_true, List.append_nil, List.cons_append, List.getElem?_cons_succ, List.getElem?_cons_zero, List.length_cons, List.length_nil, List.map_cons, List.map_nil, List.nil_append, List.replicate, List.set_cons_succ, List.set_cons_zero, Nat.add_sub_cancel, Nat.reduceAdd, Nat.reduceLeDiff, Nat.reduceSub, Nat.sub_self, Option.getD_some, Option.some.injEq, and_true, CQ, Cu, at2, B5, t5, tO, tB, tF, m3, qK, mZ, xN, uP, kX, A5, Ba, Bc, Ca, cY, decide_false, decide_true, mB, l9, exists_eq_left', if_false, if_true, w6, pY, gG, dQ, dP, d7, dO, d8, dE, fQ, fL, gW, fV, gP, eY, fR, fP, gU, gD, gS, fA, gM, gX, iI, hG, iM, fX, gC, fO, gR, fT, gQ, eZ, gY, gZ, iP, gN, iK, fY, fB, fC, fW, e8, fN, eM, items, tY, jG, oQ, jM, xS, oY, jQ, bX, aH, reduceCtorEq, gT, BG, true_and, t6, qN, nB, tE, nZ, wQ, xA, uC, wN, oA, nE, k5, oB, nV, lW, xX, uI, oO, zA, vC, qJ, n5, w4, tJ, tH, qL, xU, tD, kM, tI, m7, oF, kO, yK, sM, nU, n6, n8, eV, OC, lR, tG, sI, Ct, o5, t7, fD, u6, oG, o6, o4, pH, nG, o7, pT])
theorem PV (F:cZ K "_law_cost" "_law_cost" uG f fd) (hm:mg "_law_cost"=some (.ref f)):Callee P w K mg base 1 "_law_cost" E1 []:=by
 refine bT F hm jI (Le fun _ _ _ _ _ _ _ _ _ _=>rfl) (aD (aR 4 jI.nd (aQ (uv 1) aI))
 (aD (eB (eX (uv 2)) (iH (n:=2) (bM (aZ (k:=1000) 5 jI.nd) (bM (aZ (k:=1000) 6 jI.nd) fK)))
 (aD (aR 7 jI.nd (aQ (iR true (fun _=>True.intro) (uv 3) (uv 5)) (qG (aQ (uv 0) aI) (aA (uv 6) aB))))
 (aD (bR (bU BC (uv 7) nH)
 (aG (aW nH))
 bC)
 (aG (aR 4 jI.nd (cX (own:=false) (uv 4) (uv 7)))))))
 (aG (aW (uv 4))))) ?_
 rintro us M Q ⟨cs,tls,tl,sp,x,ps,vs,rfl,hx,hc6,hsp,q⟩
 refine ⟨rfl,?_⟩
 refine aE fun V hV=>?_
 simp_all! only [bA,hName,p9]
 subst hV
 refine aE fun V hV=>?_
 refine eS (S:=⟨none,sp.map cV⟩) (M1:=M) (fun R r=>by simp_all! only [true_and];exact r)
  (fun i τ Mj=>∃ (w:Int) (z5 z6 z7:Option U),τ=[some (iD cs tls),some tl.toU,some (.lst (sp.map cV)),some x,some (.int (tl.cost + w)),z5,z6,z7]/\Mj=M/\bO (aY vs) (sp.take i)=some w) ⟨0,none,none,none,by rw [Int.add_zero],rfl,rfl⟩ nk ?_ ?_
 ·rintro i u τ Mj e ⟨w,z5,z6,z7,rfl,rfl,hw⟩
  have e':(sp.map cV)[i]?=some u:=e
  rw [List.getElem?_map] at e'
  cases hj:sp[i]? with
  | none=>rw [hj] at e';cases e'
  | some s =>
   rw [hj] at e'
   cases e'
   obtain ⟨hs1,hs2⟩:=hsp s (List.mem_of_getElem? hj)
   have tk:sp.take (i + 1)=sp.take i++[s]:=by rw [List.take_add_one,hj];rfl
   have hl:fF true Mj x (aN s.1)=some (some (qR cs vs s.1)):=by rw [rM s.1 hx,zH hs1]
   refine ⟨rfl,?_⟩
   simp_all! only [cV,gB,eT,iC,hName]
   refine aE fun V1 hV1=>?_
   simp_all! only [bA,hName,bK,hl,Ac,mF,jY,dM,qR]
   obtain ⟨i1,i2,i3⟩:=rF hs2
   refine ⟨⟨_,rfl⟩,cs,kB cs s.2,strs_map cs,i1,i2,_,zI hs2,?_⟩
   cases hv:aY vs s with
   | none =>
    simp only [eO]
    subst hV1
    refine aE fun V1 hV1=>?_
    refine bD fun A B hA hB=>?_
    simp_all! only [true_and]
    subst hA
    simp_all! only [bS]
    rw [Dy (List.mem_of_getElem? hj) hv] at q
    exact aU q
   | some v =>
    simp only [eO]
    subst hV1
    refine aE fun V1 hV1=>?_
    refine bD fun A B hA hB=>?_
    simp_all! only [true_and]
    subst hB
    simp only [bF]
    subst hV1
    simp_all! only [bA,hName]
    refine ⟨w + v,some (aN s.1),some (.str s.2),some (.int v),?_,?_⟩
    ·rw [Int.add_assoc]
    ·rw [tk,C7 _ _ _ hw,hv];rfl
 ·rintro τ Mj ⟨w,z5,z6,z7,rfl,rfl,hw⟩
  rw [show (Src.mk none (sp.map cV)).xs.length=sp.length from by show (sp.map cV).length=_;simp,List.take_length] at hw
  show V _ _
  subst hV
  simp_all! only [bS]
  rw [hw] at q
  exact aU q
theorem uY {vs:VS} {q:List Nat} {m:VM} {s:List Nat × Str} (h:asc vs q=none) (hne:s.1≠q):aY (vs++[(q,m)]) s=aY vs s:=by
 rw [<- rY h];unfold cur;rw [if_neg hne]
theorem Iv {vs:VS} {q:List Nat} {m:VM} {c:Str} (h:asc vs q=none):aY (vs++[(q,m)]) (q,c)=asc m c:=by
 rw [<- rY h];unfold cur;rw [if_pos rfl]
theorem Gy {chs:CS} {q:List Nat} {ch:CM} {s:List Nat × Str} (hne:s.1≠q):wC (chs++[(q,ch)]) s=wC chs s:=by
 unfold wC
 rw [oJ]
 cases e:asc chs s.1 with
 | some m=>rfl
 | none =>
  show (asc [(q,ch)] s.1).bind _=_
  rw [iU (p:=(q,ch)) (fun z=>hne z.symm)];rfl
structure Q1 (t:Tr) (tls:List Tl) (cs:List Str) (vs:VS) (chs:CS) (p:List Nat) (t':Tr) (vs0:VS) (m:VM) (ch:CM):Prop where
 f:vF cs vs0 p t'.size (dA t' p 0 tls) m ch
 v:∀ c,aY vs (p,c)=asc m c
 c:∀ c,wC chs (p,c)=asc ch c
 old:∀ s:List Nat × Str,(asc vs0 s.1).isSome=true->aY vs s=aY vs0 s
 sub:∀ x,(asc vs0 x).isSome=true->(asc vs x).isSome=true
 ok:∀ l∈dA t' p 0 tls,AU cs vs0 p t'.size l
theorem Bd.fillAt {t:Tr} {tls:List Tl} {cs:List Str} {ps:List (List Nat)} {vs:VS} {chs:CS} (hT:Tab cs tls) (b:Bd t tls cs ps vs chs):(∃ A,t.places=A++ps.reverse)->∀ p∈ps,∀ t',t.at p=some t'->∃ vs0 m ch,Q1 t tls cs vs chs p t' vs0 m ch:=by
 induction b with
 | nil=>intro _ p hp;cases hp
 | @snoc ps vs chs q tq mq chq b hq htq hf ih =>
  rintro ⟨A,hA⟩ p hp t' ht
  have nov:=b.noV hq
  have keys:∀ x,(asc vs x).isSome=true->x≠q:=fun x hx z=>by subst z;rw [nov] at hx;cases hx
  rw [List.reverse_append] at hA
  have hA':t.places=A++q :: ps.reverse:=hA
  have up:∀ x,(asc vs x).isSome=true->(asc (vs++[(q,mq)]) x).isSome=true:=fun x hx=>by
   rw [oJ]
   cases e:asc vs x with
   | none=>rw [e] at hx;cases hx
   | some m=>rfl
  rcases List.mem_append.mp hp with hp' | hp'
  ·obtain ⟨vs0,m,ch,k⟩:=ih ⟨A++[q],by rw [hA'];simp⟩ p hp' t' ht
   have hne:p≠q:=fun z=>by subst z;exact hq hp'
   exact ⟨vs0,m,ch,k.f,fun c=>by rw [uY nov (s:=(p,c)) hne];exact k.v c,fun c=>by rw [Gy (s:=(p,c)) hne];exact k.c c,fun s hs=>by rw [uY nov (keys _ (k.sub _ hs))];exact k.old s hs,fun x hx=>up x (k.sub x hx),k.ok⟩
  ·cases List.mem_singleton.mp hp'
   rw [htq] at ht;cases ht
   exact ⟨vs,mq,chq,hf,fun c=>Iv nov,fun c=>HW (b.noC hq),fun s hs=>uY nov (keys _ hs),up,Bd.ld (A:=A) (B:=ps.reverse) hT hA' htq (by rw [List.reverse_reverse];exact b)⟩
theorem Bd.full {t:Tr} {tls:List Tl} {cs:List Str} {vs:VS} {chs:CS} (hT:Tab cs tls) (b:Bd t tls cs t.places.reverse vs chs) {p:List Nat} {t':Tr} (ht:t.at p=some t'):∃ vs0 m ch,Q1 t tls cs vs chs p t' vs0 m ch :=
 b.fillAt hT ⟨[],by simp⟩ p (List.mem_reverse.mpr (iL t p t' ht)) t' ht
theorem EF {t:Tr} {p:List Nat}:∀ {tls:List Tl} {k i:Nat} {tl:Tl},tls[i]?=some tl->cJ tl.pt t=true->(⟨k + i,tl.cls,tl.cost,(gF tl.pt).map fun e=>(p++e.1,e.2)⟩:Ld)∈dA t p k tls
 | [],k,i,tl,h,_=>by cases h
 | a :: r,k,0,tl,h,hl=>by
  cases h
  simp only [dA,hl,if_true,List.mem_append,List.mem_singleton]
  exact .inl (by rw [Nat.add_zero])
 | a :: r,k,i + 1,tl,h,hl=>by
  have:=EF (p:=p) (k:=k + 1) (tls:=r) (i:=i) h hl
  rw [show k + 1 + i=k + (i + 1) by omega] at this
  simp only [dA,List.mem_append]
  exact .inr this
theorem Bd.jf {t:Tr} {tls:List Tl} {cs:List Str} {vs:VS} {chs:CS} (hT:Tab cs tls) (b:Bd t tls cs t.places.reverse vs chs) {p:List Nat} {t':Tr} (ht:t.at p=some t') :
  (∀ c v,aY vs (p,c)=some v->∃ tl∈tls,cJ tl.pt t'=true/\tl.cls=c/\∃ w,bO (aY vs) ((gF tl.pt).map fun e=>(p++e.1,e.2))=some w/\v=tl.cost + w) /\
  ∀ tl∈tls,cJ tl.pt t'=true->∀ w,bO (aY vs) ((gF tl.pt).map fun e=>(p++e.1,e.2))=some w->∃ v,aY vs (p,tl.cls)=some v/\v<=tl.cost + w:=by
 obtain ⟨vs0,m,ch,k⟩:=b.full hT ht
 have hc:∀ l∈dA t' p 0 tls,bO (cur vs0 p m) l.spots=bO (aY vs) l.spots:=fun l hl=>oE fun s hs=>by
  unfold cur
  by_cases z:s.1=p
  ·rw [if_pos z,<- k.v s.2,<- z]
  ·rw [if_neg z,k.old s (((k.ok l hl).there s hs).resolve_left z)]
 refine ⟨fun c v hv=>?_,fun tl ht hl w hw=>?_⟩
 ·rw [k.v] at hv
  obtain ⟨_,_,l,_,a2,a3,w,a4,a5⟩:=k.f.just c v hv
  rw [hc l a2] at a4
  obtain ⟨i,tl,e1,e2,rfl⟩:=sL a2
  exact ⟨tl,List.mem_of_getElem? e1,e2,a3,w,a4,a5⟩
 ·obtain ⟨i,hi⟩:=List.getElem?_of_mem ht
  have hin:=EF (t:=t') (p:=p) (k:=0) hi hl
  rw [<- hc _ hin] at hw
  obtain ⟨v,h1,h2⟩:=k.f.fix _ hin w hw
  exact ⟨v,by rw [k.v];exact h1,h2⟩
theorem u7 {pt:Pt} {t:Tr} (h:cJ pt t=true) {e:List Nat × Str} (he:e∈gF pt):∃ t2,t.at e.1=some t2:=by
 obtain ⟨bs,g1,g2,g3⟩:=pP pt t [] h
 obtain ⟨j,hj⟩:=List.getElem?_of_mem he
 have hjl:=(List.getElem?_eq_some_iff.mp hj).1
 have hb:bs[j]?=some (bs[j]'(by rw [g1];exact hjl)):=List.getElem?_eq_getElem _
 obtain ⟨s,t2,e1,e2,_⟩:=g3 j e _ hj hb
 have e1':e.1=s:=by simpa using e1
 exact ⟨t2,by rw [e1'];exact e2⟩
theorem rB:∀ (p:Pt) (pl:List Nat),cE p pl=(gF p).map fun e=>(pl++e.1,e.2):=by
 have main:∀ (p:Pt) (pl pr:List Nat),cE p (pl++pr)=(cE p pr).map fun e=>(pl++e.1,e.2):=by
  intro p
  induction p with
  | hole c=>intro pl pr;rfl
  | any=>intro pl pr;rfl
  | fr l h=>intro pl pr;rfl
  | turn a ih =>
   intro pl pr
   show cE a (pl++pr++[0])=(cE a (pr++[0])).map _
   rw [List.append_assoc];exact ih pl (pr++[0])
  | two o a b iha ihb =>
   intro pl pr
   rw [uD,uD,List.map_append,List.append_assoc,List.append_assoc,iha,ihb]
 intro p pl
 have:=main p pl []
 rw [List.append_nil] at this
 exact this
theorem rT:∀ (t:Tr) (pl:List Nat),∀ e∈dG t pl,∃ s,e.1=pl++s/\t.at s=some e.2
 | .num m,pl,e,h=>by cases List.mem_singleton.mp h;exact ⟨[],by simp,rfl⟩
 | .name x,pl,e,h=>by cases List.mem_singleton.mp h;exact ⟨[],by simp,rfl⟩
 | .turn a,pl,e,h=>by
  rcases List.mem_cons.mp h with rfl | h
  ·exact ⟨[],by simp,rfl⟩
  ·obtain ⟨s,h1,h2⟩:=rT a _ e h
   exact ⟨0 :: s,by rw [h1];simp,h2⟩
 | .two o a b,pl,e,h=>by
  rcases List.mem_cons.mp h with rfl | h
  ·exact ⟨[],by simp,rfl⟩
  ·rcases List.mem_append.mp h with h | h
   ·obtain ⟨s,h1,h2⟩:=rT a _ e h
    exact ⟨0 :: s,by rw [h1];simp,h2⟩
   ·obtain ⟨s,h1,h2⟩:=rT b _ e h
    exact ⟨1 :: s,by rw [h1];simp,h2⟩
def LM:dC:=fun us M Q=>∃ (cs:List Str) (tls:List Tl) (t:Tr) (x:U) (vs:VS) (chs:CS),us=[iD cs tls,t.toU,x]/\iZ M x=some (.dT (eU t.places cs vs))/\Tab cs tls/\t.dep<=12/\t.size<=200/\(∀ tl∈tls,∀ e∈gF tl.pt,e.2∈cs)/\Bd t tls cs t.places.reverse vs chs/\Q (.bl true) M
theorem NT (F:cZ K "_law_fits" "_law_fits" sS f fd) (hm:mg "_law_fits"=some (.ref f)) (kF:Callee P w K mg base 13 "_law_all" (sZ 12) []) (k9:Callee P w K mg base 7 "_law_spots" (AR 6) []) (tU:Callee P w K mg base 1 "_law_cost" E1 []):Callee P w K mg base 14 "_law_fits" LM []:=by
 refine bT F hm iO (wJ fun _ _ _ _ _ _ _ _ _=>rfl) (aD (eB (eX (aM kF (aA (uv 1) (aA (bG aB) aB)))) (iH (n:=2) (bM (aZ (k:=1000) 3 iO.nd) (bM (aZ (k:=1000) 4 iO.nd) fK)))
 (aG (eB (eX (aQ (uv 0) aI)) (aZ (k:=1000) 5 iO.nd)
 (aD (aR 6 iO.nd (aM k9 (aA (aQ (uv 5) aI) (aA (uv 4) (aA (uv 3) aB)))))
 (aG (bR (bU rK (uv 6) nH)
 (aD (aR 7 iO.nd (aM tU (aA (uv 0) (aA (uv 5) (aA (uv 6) (aA (uv 2) aB))))))
 (aD (aR 8 iO.nd (aQ (iR true (fun _=>True.intro) (uv 2) (uv 3)) (qG (aQ (uv 0) aI) (aA (aQ (uv 5) aI) aB))))
 (aG (bR (kS.pt (rO (bU rK (uv 7) nH) (oH (kS.pt (l0 (bU BC (uv 8) nH) (nD (bU AD (uv 8) (uv 7))))))))
 (aG (aW l8))
 bC))))
 bC))))))
 (aG (aW l8))) ?_
 rintro us M Q ⟨cs,tls,t,x,vs,chs,rfl,hx,hT,hd,hsz,hho,b,q⟩
 refine ⟨rfl,?_⟩
 have hc6:=hT.cls.len
 refine aE fun V hV=>?_
 refine eS (S:=⟨none,(dG t []).map jU⟩) (M1:=M) (fun R r=>by simp_all! only [true_and];exact ⟨t,[],rfl,hd,by decide,hsz,by decide,r⟩)
  (fun i τ Mj=>∃ z3 z4 z5 z6 z7 z8:Option U,τ=[some (iD cs tls),some t.toU,some x,z3,z4,z5,z6,z7,z8]/\Mj=M) ⟨none,none,none,none,none,none,rfl,rfl⟩ nk ?_ ?_
 ·rintro i u τ Mj e ⟨z3,z4,z5,z6,z7,z8,rfl,rfl⟩
  have e':((dG t []).map jU)[i]?=some u:=e
  rw [List.getElem?_map] at e'
  cases hj:(dG t [])[i]? with
  | none=>rw [hj] at e';cases e'
  | some en =>
   rw [hj] at e'
   cases e'
   obtain ⟨s,hs1,hs2⟩:=rT t [] en (List.mem_of_getElem? hj)
   rw [List.nil_append] at hs1
   obtain ⟨pl,t'⟩:=en
   simp only at hs1 hs2
   subst hs1
   have hpl:pl∈t.places:=iL t pl t' hs2
   obtain ⟨_,Fx⟩:=b.jf hT hs2
   refine ⟨rfl,?_⟩
   simp_all! only [jU,gB,eT,iC,hName]
   refine eS (S:=⟨none,tls.map Tl.toU⟩) (M1:=Mj) (fun R r=>by simp_all! only [jY];exact r)
    (fun i τ Mi=>∃ z5 z6 z7 z8:Option U,τ=[some (iD cs tls),some t.toU,some x,some (aN pl),some t'.toU,z5,z6,z7,z8]/\Mi=Mj) ⟨_,_,_,_,rfl,rfl⟩ nk ?_ ?_
   ·rintro k u τ Mi e ⟨y5,y6,y7,y8,rfl,rfl⟩
    have e2:(tls.map Tl.toU)[k]?=some u:=e
    rw [List.getElem?_map] at e2
    cases hk:tls[k]? with
    | none=>rw [hk] at e2;cases e2
    | some tl =>
     rw [hk] at e2
     cases e2
     have htm:=List.mem_of_getElem? hk
     obtain ⟨gp,gd,gc,g0,g1⟩:=hT.good tl htm
     simp_all! only [hName]
     refine aE fun V1 hV1=>?_
     simp_all! only [bA,hName,p9]
     have gd':tl.pt.dep<=6:=by have:tl.pt.dep<=4:=gd;omega
     have hpll:pl.length < t.size:=gO t pl hpl
     refine ⟨tl.pt,t',pl,rfl,gd',by decide,by omega,?_⟩
     cases hl:cJ tl.pt t' with
     | false =>
      have e5:hW tl.pt t' pl=.non:=by unfold hW;rw [hl];rfl
      rw [e5]
      subst hV1
      refine bD fun A B hA hB=>?_
      simp_all! only [true_and]
      subst hB
      simp only [bF]
      exact ⟨_,_,_,_,rfl,by first | rfl | trivial⟩
     | true =>
      have e5:hW tl.pt t' pl=.lst ((cE tl.pt pl).map cV):=by unfold hW;rw [if_pos hl]
      rw [e5]
      subst hV1
      refine bD fun A B hA hB=>?_
      simp_all! only [true_and]
      subst hA
      refine aE fun V1 hV1=>?_
      simp_all! only [bA,hName]
      refine ⟨cs,tls,tl,cE tl.pt pl,x,t.places,vs,rfl,hx,hc6,fun s hs=>?_,?_⟩
      ·rw [rB] at hs
       obtain ⟨e,he,rfl⟩:=List.mem_map.mp hs
       obtain ⟨t2,h2⟩:=u7 hl he
       exact ⟨iL t _ t2 (by rw [nF t pl e.1 t' hs2];exact h2),hho tl htm e he⟩
      have Fy:=Fx tl htm hl
      rw [<- rB] at Fy
      have hlk:fF true Mi x (aN pl)=some (some (qR cs vs pl)):=by rw [rM pl hx,zH hpl]
      obtain ⟨i1,i2,i3⟩:=rF (show tl.cls∈cs from gc)
      subst hV1
      refine aE fun V1 hV1=>?_
      simp_all! only [bA,hName,bK,hlk,Ac,mF,jY,p9,dM,qR]
      refine ⟨⟨_,rfl⟩,cs,kB cs tl.cls,strs_map cs,i1,i2,_,zI gc,?_⟩
      subst hV1
      cases hs:bO (aY vs) (cE tl.pt pl) with
      | none =>
       refine bD fun A B hA hB=>?_
       simp_all! only [yI]
       subst hB
       simp only [bF]
       exact ⟨_,_,_,_,rfl,by first | rfl | trivial⟩
      | some w =>
       obtain ⟨v,v1,v2⟩:=Fy w hs
       rw [v1]
       refine bD fun A B hA hB=>?_
       simp_all! only [yI,eO]
       rw [if_neg (by simp;omega)]
       subst hB
       simp only [bF]
       exact ⟨_,_,_,_,rfl,by first | rfl | trivial⟩
   ·rintro τ Mi ⟨y5,y6,y7,y8,rfl,rfl⟩
    exact ⟨_,_,_,_,_,_,rfl,rfl⟩
 ·rintro τ Mj ⟨z3,z4,z5,z6,z7,z8,rfl,rfl⟩
  show V _ _
  subst hV
  simp_all! only [bS]
  exact aU q
theorem rL:∀ (t:Tr) (pl:List Nat),(dG t pl).map (·.1)=t.places.map (pl++·)
 | .num _,pl=>by simp [dG,Tr.places]
 | .name _,pl=>by simp [dG,Tr.places]
 | .turn a,pl=>by simp [dG,Tr.places,rL a,List.map_map]
 | .two o a b,pl=>by simp [dG,Tr.places,rL a,rL b,List.map_map];rfl
def wM (p:List Nat):PyData:=.tuple (p.map fun (n:Nat)=>PyData.int (n:Int))
theorem CH:∀ p:List Nat,eD (p.map fun (n:Nat)=>U.int (n:Int))=some (p.map fun (n:Nat)=>PyData.int (n:Int))/\PyData.canLayAll0 (p.map fun (n:Nat)=>PyData.int (n:Int))=true/\PyData.depthAll (p.map fun (n:Nat)=>PyData.int (n:Int))<=1
 | []=>⟨rfl,rfl,by decide⟩
 | a :: r=>by
  obtain ⟨h1,h2,h3⟩:=CH r
  refine ⟨by simp [eD,toD,h1],by simp [PyData.canLayAll0,PyData.canLay0,h2],?_⟩
  simp [PyData.depthAll,PyData.depth] at h3 ⊢
  omega
theorem Ob {neg:Bool} {p:List Nat} {M:aF} {Q:UK} (q:Q (.bl (!neg)) M):sX neg (aN p) (aN p) M Q:=by
 obtain ⟨h1,h2,h3⟩:=CH p
 have ht:nN M (aN p)=some (wM p):=by
  show (eD (p.map fun (n:Nat)=>U.int (n:Int))).map PyData.tuple=_
  rw [h1];rfl
 have hc:(wM p).canLay0=true:=by simpa [wM,PyData.canLay0] using h2
 show Cp neg (aN p) (aN p) M Q
 refine ⟨wM p,wM p,ht,ht,hc,hc,?_,?_⟩
 ·simp [wM,PyData.depth];omega
 ·rw [SeqAt.eqv_refl _ hc]
  cases neg <;> exact q
theorem E7 {α:Type} (f g:α->U):∀ l:List α,eR (l.map f) (l.map g)=l.map fun e=>.tup [f e,g e]:=by
 intro l
 induction l with
 | nil=>rfl
 | cons a r ih=>simp only [eR,List.map_cons,List.zip_cons_cons] at ih ⊢;rw [ih]
def LI:dC:=fun us M Q=>∃ (cs:List Str) (t:Tr) (vs:VS),us=[.lst (t.places.map (fH cs vs)),.lst ((dG t []).map jU),.int (cs.length:Nat)]/\cs.length<=6/\t.size<=200/\Q (.bl true) M
theorem O5 (F:cZ K "_law_kinds" "_law_kinds" qZ f fd) (hm:mg "_law_kinds"=some (.ref f)) (eQ:mg "isinstance"=none) (pK:mg "list"=none) (i4:mg "tuple"=none) (bZ:mg "len"=none) (oC:mg "zip"=none) (lE:mg "all"=none) (DE:Callee P w K mg base 1 "_law_whole" PM []):Callee P w K mg base 2 "_law_kinds" LI []:=by
 refine bT F hm oS (wJ fun _ _ _ _ _ _ _ _ _=>rfl) (aD (bR (kS.pt (l0 (pJ (k6 (fM yR eQ (aA (uv 0) (aA (yC (n:="list") pK) aB))))) (nD (bU vW (fM i9 bZ (aA (uv 0) aB)) (fM i9 bZ (aA (uv 1) aB))))))
 (aG (aW l8))
 bC)
 (aD (eB (Kb oC (aA (uv 0) (aA (uv 1) aB))) (iH (n:=2) (bM (aZ (k:=1000) 3 oS.nd) (bM (aZ (k:=1000) 4 oS.nd) fK)))
 (aD (bR (kS.pt (l0 (pJ (k6 (fM yR eQ (aA (uv 3) (aA (yC (n:="tuple") i4) aB))))) (l0 (bU vW (fM i9 bZ (aA (uv 3) aB)) aI) (nD (bU vW (aQ (uv 3) aI) (aQ (uv 4) aI))))))
 (aG (aW l8))
 bC)
 (aD (bR (kS.pt (l0 (pJ (k6 (fM yR eQ (aA (aQ (uv 3) aI) (aA (yC (n:="tuple") i4) aB))))) (nD (bU vW (fM i9 bZ (aA (aQ (uv 3) aI) aB)) (uv 2)))))
 (aG (aW l8))
 bC)
 (aG (bR (pJ (k6 (fM Fz lE (aA (mX false ["one"] 1 [] (eX (aQ (uv 3) aI)) (aZ (k:=1) 0 (by dsimp only [b8];decide +kernel)) jH (QD (Ai BC (uv 0) nH) (BP (aM DE (aA (uv 0) aB))))) aB))))
 (aG (aW l8))
 bC)))))
 (aG (aW l8)))) ?_
 rintro us M Q ⟨cs,t,vs,rfl,hc6,hsz,q⟩
 refine ⟨rfl,?_⟩
 have hpl:t.places=(dG t []).map (·.1):=by rw [rL];simp
 have hrow:t.places.map (fH cs vs)=(dG t []).map fun e=>fH cs vs e.1:=by rw [hpl,List.map_map];rfl
 have hlen:(t.places.map (fH cs vs)).length=((dG t []).map jU).length:=by rw [hrow,List.length_map,List.length_map]
 refine aE fun V hV=>?_
 refine bD fun A B hA hB=>?_
 simp_all! only [hlen]
 subst hB
 simp only [bF]
 subst hV
 refine aE fun V hV=>?_
 refine eS (S:=⟨none,(dG t []).map fun e=>.tup [fH cs vs e.1,jU e]⟩) (M1:=M) (fun R r=>by
   simp_all! only [true_and]
   rw [hrow,E7];exact r)
  (fun i τ Mj=>∃ z3 z4:Option U,τ=[some (.lst (t.places.map (fH cs vs))),some (.lst ((dG t []).map jU)),some (.int (cs.length:Nat)),z3,z4]/\Mj=M) ⟨none,none,rfl,rfl⟩ nk ?_ ?_
 ·rintro i u τ Mj e ⟨z3,z4,rfl,rfl⟩
  have e':((dG t []).map fun e=>U.tup [fH cs vs e.1,jU e])[i]?=some u:=e
  rw [List.getElem?_map] at e'
  cases hj:(dG t [])[i]? with
  | none=>rw [hj] at e';cases e'
  | some en =>
   rw [hj] at e'
   cases e'
   refine ⟨rfl,?_⟩
   simp_all! only [gB,eT,iC,hName]
   refine aE fun V1 hV1=>?_
   refine bD fun A B hA hB=>?_
   simp_all! only [fH,jU]
   rw [if_neg (by decide)]
   refine Ob ?_
   simp_all! only [true_and]
   subst hB
   simp only [bF]
   subst hV1
   refine aE fun V1 hV1=>?_
   refine bD fun A B hA hB=>?_
   simp_all! only [fH,List.length_map]
   subst hB
   simp only [bF]
   subst hV1
   refine bD fun A B hA hB=>?_
   simp_all! only [fH]
   refine dX (S:=⟨none,cs.map fun c=>eO (aY vs (en.1,c))⟩) (M1:=Mj) (cs.map fun _=>U.bl true) (fun R r=>by simp_all! only [true_and];exact r) (by show (cs.map fun _=>U.bl true).length=(cs.map fun c=>eO (aY vs (en.1,c))).length;simp) (small (by show (cs.map fun c=>eO (aY vs (en.1,c))).length<=_;rw [List.length_map];omega)) (fun a e=>by cases e) ?_ ?_
   ·intro k x z hx hz M' hS R rr
    have hx':(cs.map fun c=>eO (aY vs (en.1,c)))[k]?=some x:=hx
    rw [List.getElem?_map] at hx' hz
    cases hk:cs[k]? with
    | none=>rw [hk] at hx';cases hx'
    | some c =>
     rw [hk] at hx' hz
     cases hx';cases hz
     cases hv:aY vs (en.1,c) with
     | none =>
      simp_all! only [hName,hv,eO]
      exact rr
     | some v =>
      simp_all! only [hName,hv,eO]
      exact ⟨v,rfl,rr⟩
   have hb:∀ l:List Str,pQ (l.map fun _=>U.bl true)=some (l.map fun _=>true):=fun l=>by
    induction l with
    | nil=>rfl
    | cons a r ih=>simp [pQ,ih]
   simp_all! only [hb]
   rw [if_neg (by simp)]
   subst hB
   simp only [bF]
   exact ⟨_,_,rfl,by first | rfl | trivial⟩
 ·rintro τ Mj ⟨z3,z4,rfl,rfl⟩
  show V _ _
  subst hV
  simp_all! only [bS]
  exact aU q
def wX (cs:List Str) (s:List Nat × Str):eF:=(pk s.1,Sum.inl ((kB cs s.2:Nat):Int))
def Kn (kvs:List (eF × U)) (cs:List Str) (s:List Nat × Str):Bool:=(cU kvs (wX cs s)).isSome
def lT (cs:List Str) (s:List Nat × Str):U:=.tup [aN s.1,.int ((kB cs s.2:Nat):Int)]
theorem sW (cs:List Str) (s:List Nat × Str):w5 (lT cs s)=some (wX cs s):=by
 show (match jP (s.1.map fun (n:Nat)=>U.int (n:Int)),nP (.int ((kB cs s.2:Nat):Int)) with | some ks,some k=>some (ks,k) | _,_=>none)=_
 rw [rN];rfl
theorem xR {κ:Type} [DecidableEq κ] (kvs:List (κ × U)) (k j:κ) (u:U):cU (gI kvs k u) j=if j=k then some u else cU kvs j:=lO kvs k j u
structure He (cs:List Str) (tls:List Tl) (vs:VS) (p:List Nat) (t':Tr) (done:List Tl) (kvs kvs':List (eF × U)):Prop where
 mono:∀ k,(cU kvs k).isSome=true->(cU kvs' k).isSome=true
 len:kvs'.length<=kvs.length + done.length
 got:∀ tl∈done,cJ tl.pt t'=true->∀ w,bO (aY vs) (cE tl.pt p)=some w->aY vs (p,tl.cls)=some (tl.cost + w)->(∀ s∈cE tl.pt p,Kn kvs cs s=true)->Kn kvs' cs (p,tl.cls)=true
def LK:dC:=fun us M Q=>∃ (cs:List Str) (tls:List Tl) (t t':Tr) (p:List Nat) (x:U) (kd:Addr) (vs:VS) (kvs:List (eF × U)),us=[iD cs tls,aN p,t'.toU,x,.ref kd]/\iZ M x=some (.dT (eU t.places cs vs))/\M kd=some (.dN kvs)/\(∀ M',M'=M\/(∃ o,M'=mup M kd o)->iZ M' x=iZ M x)/\kvs.length<=100000/\Tab cs tls/\(∀ tl∈tls,∀ e∈gF tl.pt,e.2∈cs)/\t.at p=some t'/\t.size<=200 /\
 ∀ kvs',He cs tls vs p t' tls kvs kvs'->Q .non (mup M kd (.dN kvs'))
theorem Ph (F:cZ K "_law_shown" "_law_shown" qW f fd) (hm:mg "_law_shown"=some (.ref f)) (lE:mg "all"=none) (k9:Callee P w K mg base 7 "_law_spots" (AR 6) []) (tU:Callee P w K mg base 1 "_law_cost" E1 []):Callee P w K mg base 8 "_law_shown" LK []:=by
 refine bT F hm iV (Q0 fun _ _ _ _ _ _ _ _ _ _ _=>rfl) (aG (eB (eX (aQ (uv 0) aI)) (aZ (k:=1000) 5 iV.nd)
 (aD (aR 6 iV.nd (aM k9 (aA (aQ (uv 5) aI) (aA (uv 2) (aA (uv 1) aB)))))
 (aG (bR (bU rK (uv 6) nH)
 (aD (aR 7 iV.nd (qG (aQ (uv 0) aI) (aA (aQ (uv 5) aI) aB)))
 (aD (aR 8 iV.nd (aM tU (aA (uv 0) (aA (uv 5) (aA (uv 6) (aA (uv 3) aB))))))
 (aD (vJ 9 iV.nd false ["spot","cls","table"] 2 [0] (eX (uv 6)) (iH (n:=2) (bM (aZ (k:=2) 0 (by dsimp only [b8];decide +kernel)) (bM (aZ (k:=2) 1 (by dsimp only [b8];decide +kernel)) fK))) jH (bG (aA (uv 0) (aA (qG (aQ (uv 2) aI) (aA (uv 1) aB)) aB))))
 (aG (bR (kS.pt (rO (bU rK (uv 8) nH) (oH (bU eK (uv 8) (aQ (iR true (fun _=>True.intro) (uv 3) (uv 1)) (uv 7))))))
 (aG (bR (k6 (fM Fz lE (aA (mX false ["one","known"] 1 [4] (eX (uv 9)) (aZ (k:=1) 0 (by dsimp only [b8];decide +kernel)) jH (Ai Ol (uv 0) (uv 1))) aB)))
 (aG (Kk l8 (uv 4) (bG (aA (uv 1) (aA (uv 7) aB)))))
 bC))
 bC)))))
 bC))))) ?_
 rintro us M Q ⟨cs,tls,t,t',p,x,kd,vs,kvs,rfl,hx,hkd,hdv,hkl,hT,hho,hat,hsz,q⟩
 refine ⟨rfl,?_⟩
 have hc6:=hT.cls.len
 have htl:=hT.len
 have hpl:p∈t.places:=iL t p t' hat
 have hpll:p.length < t.size:=gO t p hpl
 rw [<- mD hkd]
 have hx':∀ o,iZ (mup M kd o) x=some (.dT (eU t.places cs vs)):=fun o=>by rw [hdv _ (.inr ⟨o,rfl⟩)];exact hx
 refine eS (S:=⟨none,tls.map Tl.toU⟩) (M1:=mup M kd (.dN kvs)) (fun R r=>by simp_all! only [jY];exact r)
  (fun i τ Mj=>∃ (kv:List (eF × U)) (z5 z6 z7 z8 z9:Option U),τ=[some (iD cs tls),some (aN p),some t'.toU,some x,some (.ref kd),z5,z6,z7,z8,z9]/\Mj=mup M kd (.dN kv)/\He cs tls vs p t' (tls.take i) kvs kv) ⟨kvs,none,none,none,none,none,rfl,rfl,fun k h=>h,by simp,fun tl h=>by simp at h⟩ nk ?_ ?_
 ·rintro i u τ Mj e ⟨kv,z5,z6,z7,z8,z9,rfl,rfl,hS⟩
  have e2:(tls.map Tl.toU)[i]?=some u:=e
  rw [List.getElem?_map] at e2
  cases hk:tls[i]? with
  | none=>rw [hk] at e2;cases e2
  | some tl =>
   rw [hk] at e2
   cases e2
   have htm:=List.mem_of_getElem? hk
   have hil:=(List.getElem?_eq_some_iff.mp hk).1
   have tk:tls.take (i + 1)=tls.take i++[tl]:=by rw [List.take_add_one,hk];rfl
   obtain ⟨gp,gd,gc,g0,g1⟩:=hT.good tl htm
   have gd':tl.pt.dep<=6:=by have:tl.pt.dep<=4:=gd;omega
   have skip:(cJ tl.pt t'=true->∀ w,bO (aY vs) (cE tl.pt p)=some w->aY vs (p,tl.cls)=some (tl.cost + w)->(∀ s∈cE tl.pt p,Kn kvs cs s=true)->False)->He cs tls vs p t' (tls.take (i + 1)) kvs kv:=fun no=>by
    rw [tk]
    refine ⟨hS.mono,by have:=hS.len;rw [List.length_append];omega,fun y hy hl w h1 h2 h3=>?_⟩
    rcases List.mem_append.mp hy with hy | hy
    ·exact hS.got y hy hl w h1 h2 h3
    ·cases List.mem_singleton.mp hy
     exact (no hl w h1 h2 h3).elim
   simp_all! only [hName]
   refine aE fun V1 hV1=>?_
   simp_all! only [bA,hName,p9]
   refine ⟨tl.pt,t',p,rfl,gd',by decide,by omega,?_⟩
   cases hl:cJ tl.pt t' with
   | false =>
    have e5:hW tl.pt t' p=.non:=by unfold hW;rw [hl];rfl
    rw [e5]
    subst hV1
    refine bD fun A B hA hB=>?_
    simp_all! only [true_and]
    subst hB
    simp only [bF]
    exact ⟨kv,_,_,_,_,_,rfl,rfl,skip fun z=>by rw [hl] at z;cases z⟩
   | true =>
    have e5:hW tl.pt t' p=.lst ((cE tl.pt p).map cV):=by unfold hW;rw [if_pos hl]
    rw [e5]
    subst hV1
    refine bD fun A B hA hB=>?_
    simp_all! only [true_and]
    subst hA
    obtain ⟨i1,i2,i3⟩:=rF (show tl.cls∈cs from gc)
    have hspot:∀ s∈cE tl.pt p,s.1∈t.places/\s.2∈cs:=fun s hs=>by
     rw [rB] at hs
     obtain ⟨e,he,rfl⟩:=List.mem_map.mp hs
     obtain ⟨t2,h2⟩:=u7 hl he
     exact ⟨iL t _ t2 (by rw [nF t p e.1 t' hat];exact h2),hho tl htm e he⟩
    have hlen64:(cE tl.pt p).length<=64:=by
     have h1:=oW tl.pt p
     have h2:2 ^ tl.pt.dep<=2 ^ 6:=Nat.pow_le_pow_right (by decide) gd'
     omega
    refine aE fun V1 hV1=>?_
    simp_all! only [bA,hName,Ac,mF,jY,p9,dM]
    refine ⟨⟨_,rfl⟩,cs,kB cs tl.cls,strs_map cs,i1,i2,?_⟩
    subst hV1
    refine aE fun V1 hV1=>?_
    simp_all! only [bA,hName]
    refine ⟨cs,tls,tl,cE tl.pt p,x,t.places,vs,rfl,hx' _,hc6,hspot,?_⟩
    subst hV1
    refine aE fun V1 hV1=>?_
    simp_all! only [bA,hName]
    refine dX (S:=⟨none,(cE tl.pt p).map cV⟩) (M1:=mup M kd (.dN kv)) ((cE tl.pt p).map (lT cs)) (fun R r=>by simp_all! only [true_and];exact r) (by show ((cE tl.pt p).map (lT cs)).length=((cE tl.pt p).map cV).length;simp) (small (by show ((cE tl.pt p).map cV).length<=_;rw [List.length_map];omega)) (fun a e=>by cases e) ?_ ?_
    ·intro k u z hu hz M' hSb R rr
     have hu':((cE tl.pt p).map cV)[k]?=some u:=hu
     rw [List.getElem?_map] at hu' hz
     cases hq:(cE tl.pt p)[k]? with
     | none=>rw [hq] at hu';cases hu'
     | some sp =>
      rw [hq] at hu' hz
      cases hu';cases hz
      obtain ⟨j1,j2,j3⟩:=rF (hspot sp (List.mem_of_getElem? hq)).2
      refine ⟨rfl,?_⟩
      simp_all! only [cV,gB,eT,iC,hName,Ac,mF,jY,dM]
      exact ⟨⟨_,rfl⟩,cs,kB cs sp.2,strs_map cs,j1,j2,rr⟩
    simp only [jQ]
    subst hV1
    have hlk:fF true (mup M kd (.dN kv)) x (aN p)=some (some (qR cs vs p)):=by rw [rM p (hx' _),zH hpl]
    have hix:=zI (vs:=vs) (p:=p) (show tl.cls∈cs from gc)
    refine bD fun A B hA hB=>?_
    have next:(cJ tl.pt t'=true->∀ w,bO (aY vs) (cE tl.pt p)=some w->aY vs (p,tl.cls)=some (tl.cost + w)->(∀ s∈cE tl.pt p,Kn kvs cs s=true)->False)->B (mup M kd (.dN kv)):=fun no=>by
     subst hB
     simp only [bF]
     exact ⟨kv,_,_,_,_,_,rfl,rfl,skip no⟩
    clear hB
    cases hs:bO (aY vs) (cE tl.pt p) with
    | none =>
     simp_all! only [yI,hs]
     exact next fun _ w h=>by rw [hs] at h;cases h
    | some w =>
     simp_all! only [yI,hs,bK,hlk,qR,hix]
     cases hv:aY vs (p,tl.cls) with
     | none =>
      show (if false=true then A (mup M kd (.dN kv)) else B (mup M kd (.dN kv)))
      rw [if_neg (by decide)]
      exact next fun _ w' _ h=>by rw [hv] at h;cases h
     | some v =>
      simp_all! only [eO]
      by_cases hcv:tl.cost + w=v
      ·rw [if_pos (by simp [hcv])]
       subst hA
       refine bD fun A2 B2 hA2 hB2=>?_
       simp_all! only [true_and]
       have hknow:∀ s,rV (mup M kd (.dN kv)) (.ref kd) (lT cs s)=some (cU kv (wX cs s)):=fun s=>by
        show (match mup M kd (.dN kv) kd,w5 (lT cs s) with | some (.dN kvs),some k=>some (cU kvs k) | _,_=>none)=_
        rw [aH,sW]
       refine dX (S:=⟨none,(cE tl.pt p).map (lT cs)⟩) (M1:=mup M kd (.dN kv)) ((cE tl.pt p).map fun s=>U.bl (Kn kv cs s)) (fun R r=>by simp_all! only [true_and];exact r) (by show ((cE tl.pt p).map fun s=>U.bl (Kn kv cs s)).length=((cE tl.pt p).map (lT cs)).length;simp) (small (by show ((cE tl.pt p).map (lT cs)).length<=_;rw [List.length_map];omega)) (fun a e=>by cases e) ?_ ?_
       ·intro k u z hu hz M' hSb R rr
        have hu':((cE tl.pt p).map (lT cs))[k]?=some u:=hu
        rw [List.getElem?_map] at hu' hz
        cases hq:(cE tl.pt p)[k]? with
        | none=>rw [hq] at hu';cases hu'
        | some sp =>
         rw [hq] at hu' hz
         cases hu';cases hz
         have hk2:rV M' (.ref kd) (lT cs sp)=some (cU kv (wX cs sp)):=by
          show (match M' kd,w5 (lT cs sp) with | some (.dN kvs),some k=>some (cU kvs k) | _,_=>none)=_
          rw [hSb kd _ aH,sW]
         simp_all! only [hName,vY,hk2]
         exact rr
       have hb:∀ l:List (List Nat × Str),pQ (l.map fun s=>U.bl (Kn kv cs s))=some (l.map fun s=>Kn kv cs s):=fun l=>by
        induction l with
        | nil=>rfl
        | cons a r ih=>simp [pQ,ih]
       simp_all! only [hb]
       by_cases hall:((cE tl.pt p).map fun s=>Kn kv cs s).all (fun b=>b)=true
       ·rw [if_pos hall]
        subst hA2
        have hkl2:kv.length < sizeLine:=by
         have h1:=hS.len
         rw [List.length_take] at h1
         have h2:=PySem.sizeLine_eq
         omega
        have hnk:w5 (.tup [aN p,.int ((kB cs tl.cls:Nat):Int)])=some (wX cs (p,tl.cls)):=sW cs (p,tl.cls)
        simp_all! only [Hz,hnk]
        refine ⟨hkl2,gI kv (wX cs (p,tl.cls)) (.bl true),_,_,_,_,_,rfl,rfl,?_⟩
        rw [tk]
        refine ⟨fun k h=>?_,?_,fun y hy hl' w' h1 h2 h3=>?_⟩
        ·rw [xR]
         split
         ·rfl
         ·exact hS.mono k h
        ·have h1:=Kf kv (wX cs (p,tl.cls)) (.bl true)
         have h2:=hS.len
         rw [List.length_append,List.length_singleton];omega
        ·unfold Kn
         rw [xR]
         split
         ·rfl
         ·rename_i hne
          rcases List.mem_append.mp hy with hy | hy
          ·exact hS.got y hy hl' w' h1 h2 h3
          ·cases List.mem_singleton.mp hy
           exact absurd rfl hne
       ·rw [if_neg hall]
        subst hB2
        simp only [bF]
        refine ⟨kv,_,_,_,_,_,rfl,rfl,skip fun _ w' h1 h2 h3=>hall ?_⟩
        rw [List.all_map,List.all_eq_true]
        exact fun s hs'=>hS.mono _ (h3 s hs')
      ·rw [if_neg (by simp [hcv])]
       exact next fun _ w' h1 h2=>by
        rw [hs] at h1;cases h1
        rw [hv] at h2
        exact absurd (Option.some.inj h2).symm hcv
 ·rintro τ Mj ⟨kv,z5,z6,z7,z8,z9,rfl,rfl,hS⟩
  rw [show (Src.mk none (tls.map Tl.toU)).xs.length=tls.length from by show (tls.map Tl.toU).length=_;simp,List.take_length] at hS
  exact aU (q kv hS)
theorem Bd.jr {t:Tr} {tls:List Tl} {cs:List Str} {vs:VS} {chs:CS} (hT:Tab cs tls) (b:Bd t tls cs t.places.reverse vs chs) {p:List Nat} {t':Tr} (ht:t.at p=some t') :
  ∃ rk:Str->Nat,∀ c v,aY vs (p,c)=some v->c∈cs/\∃ tl∈tls,cJ tl.pt t'=true/\tl.cls=c/\∃ w,bO (aY vs) (cE tl.pt p)=some w/\v=tl.cost + w/\∀ e∈gF tl.pt,e.1=[]->rk e.2 < rk c:=by
 obtain ⟨vs0,m,ch,k⟩:=b.full hT ht
 have hc:∀ l∈dA t' p 0 tls,bO (cur vs0 p m) l.spots=bO (aY vs) l.spots:=fun l hl=>oE fun s hs=>by
  unfold cur
  by_cases z:s.1=p
  ·rw [if_pos z,<- k.v s.2,<- z]
  ·rw [if_neg z,k.old s (((k.ok l hl).there s hs).resolve_left z)]
 obtain ⟨rk,hrk⟩:=k.f.rk
 refine ⟨rk,fun c v hv=>?_⟩
 rw [k.v] at hv
 refine ⟨k.f.sub c (kI.mp (by rw [hv];rfl)),?_⟩
 obtain ⟨_,_,l,a1,a2,a3,w,a4,a5⟩:=k.f.just c v hv
 have hr:=hrk c l a1
 rw [hc l a2] at a4
 obtain ⟨i,tl,e1,e2,rfl⟩:=sL a2
 refine ⟨tl,List.mem_of_getElem? e1,e2,a3,w,by rw [rB];exact a4,a5,fun e he hz=>?_⟩
 have:=hr (p++e.1,e.2) (List.mem_map.mpr ⟨e,he,rfl⟩) (by rw [hz];simp)
 exact this
theorem G6 {α:Type} (rk:α->Nat):∀ l:List α,l≠[]->∃ c∈l,∀ d∈l,rk c<=rk d
 | [],h=>absurd rfl h
 | [a],_=>⟨a,List.mem_cons_self,fun d hd=>by cases List.mem_singleton.mp hd;exact Nat.le_refl _⟩
 | a :: b :: r,_=>by
  obtain ⟨c,hc,hm⟩:=G6 rk (b :: r) (by simp)
  by_cases h:rk a<=rk c
  ·refine ⟨a,List.mem_cons_self,fun d hd=>?_⟩
   rcases List.mem_cons.mp hd with rfl | hd
   ·exact Nat.le_refl _
   ·exact Nat.le_trans h (hm d hd)
  ·refine ⟨c,List.mem_cons_of_mem _ hc,fun d hd=>?_⟩
   rcases List.mem_cons.mp hd with rfl | hd
   ·omega
   ·exact hm d hd
theorem Ey {α:Type} {f g:α->Bool}:∀ l:List α,(∀ x∈l,g x=true->f x=true)->(l.filter g).length<=(l.filter f).length/\((∃ x∈l,f x=true/\g x=false)->(l.filter g).length < (l.filter f).length)
 | [],_=>⟨Nat.le_refl _,fun ⟨x,h,_⟩=>by cases h⟩
 | a :: r,h=>by
  obtain ⟨i1,i2⟩:=Ey r fun x hx=>h x (List.mem_cons_of_mem _ hx)
  have ha:=h a List.mem_cons_self
  refine ⟨?_,fun ⟨x,hx,h1,h2⟩=>?_⟩
  ·cases hg:g a with
   | true=>rw [List.filter_cons,List.filter_cons,hg,ha hg];simp;exact i1
   | false=>cases hf:f a <;> rw [List.filter_cons,List.filter_cons,hg,hf] <;> simp <;> omega
  ·rcases List.mem_cons.mp hx with rfl | hx
   ·rw [List.filter_cons,List.filter_cons,h1,h2];simp;omega
   ·have:=i2 ⟨x,hx,h1,h2⟩
    cases hg:g a with
    | true=>rw [List.filter_cons,List.filter_cons,hg,ha hg];simp;exact this
    | false=>cases hf:f a <;> rw [List.filter_cons,List.filter_cons,hg,hf] <;> simp <;> omega
def wK (kv:List (eF × U)) (cs:List Str) (vs:VS) (p:List Nat):List Str:=cs.filter fun c=>(aY vs (p,c)).isSome && !Kn kv cs (p,c)
theorem He.more {t:Tr} {tls:List Tl} {cs:List Str} {vs:VS} {chs:CS} (hT:Tab cs tls) (b:Bd t tls cs t.places.reverse vs chs) (hho:∀ tl∈tls,∀ e∈gF tl.pt,e.2∈cs) {p:List Nat} {t':Tr} (ht:t.at p=some t') {kv kv':List (eF × U)} (h:He cs tls vs p t' tls kv kv')
  (deep:∀ e t2,e≠[]->t'.at e=some t2->∀ c∈cs,(aY vs (p++e,c)).isSome=true->Kn kv cs (p++e,c)=true):(wK kv' cs vs p).length<=(wK kv cs vs p).length - 1:=by
 obtain ⟨rk,hr⟩:=b.jr hT ht
 have hsub:∀ x∈cs,((aY vs (p,x)).isSome && !Kn kv' cs (p,x))=true->((aY vs (p,x)).isSome && !Kn kv cs (p,x))=true:=fun x _ hx=>by
  cases h1:(aY vs (p,x)).isSome with
  | false=>rw [h1] at hx;cases hx
  | true =>
   cases h2:Kn kv cs (p,x) with
   | false=>rfl
   | true=>rw [h1,show Kn kv' cs (p,x)=true from h.mono _ h2] at hx;cases hx
 obtain ⟨f1,f2⟩:=Ey cs hsub
 by_cases hz:wK kv cs vs p=[]
 ·have:(wK kv cs vs p).length=0:=by rw [hz];rfl
  unfold wK at this ⊢;omega
 ·obtain ⟨c,hc,hmin⟩:=G6 rk _ hz
  obtain ⟨hc1,hc2⟩:=List.mem_filter.mp hc
  have hval:(aY vs (p,c)).isSome=true:=by
   cases h1:(aY vs (p,c)).isSome with
   | false=>rw [h1] at hc2;cases hc2
   | true=>rfl
  obtain ⟨v,hv⟩:=Option.isSome_iff_exists.mp hval
  obtain ⟨_,tl,htm,hl,hcl,w,hw,hvw,hrk⟩:=hr c v hv
  have hgot:=h.got tl htm hl w hw (by rw [hcl,hv,hvw]) fun s hs=>by
   obtain ⟨a,ha⟩:=tZ hw s hs
   rw [rB] at hs
   obtain ⟨e,he,rfl⟩:=List.mem_map.mp hs
   have hec:=hho tl htm e he
   by_cases hz:e.1=[]
   ·rw [hz,List.append_nil] at ha ⊢
    cases hk:Kn kv cs (p,e.2) with
    | true=>rfl
    | false =>
     have hin:e.2∈wK kv cs vs p:=List.mem_filter.mpr ⟨hec,by rw [ha,hk];rfl⟩
     have h1:=hmin e.2 hin
     have h2:=hrk e he hz
     omega
   ·obtain ⟨t2,h2⟩:=u7 hl he
    exact deep e.1 t2 hz h2 e.2 hec (by rw [ha];rfl)
  rw [hcl] at hgot
  have:=f2 ⟨c,hc1,hc2,by rw [hgot];simp⟩
  unfold wK;omega
theorem CK:∀ {cs:List Str},cs.Nodup->∀ {k:Nat} {c:Str},cs[k]?=some c->kB cs c=k
 | a :: r,hn,0,c,h=>by cases h;unfold kB;rw [if_pos rfl]
 | a :: r,hn,k + 1,c,h=>by
  rw [List.nodup_cons] at hn
  have h':r[k]?=some c:=by simpa using h
  have hne:¬ a=c:=fun z=>hn.1 (z ▸ List.mem_of_getElem? h')
  unfold kB
  rw [if_neg hne,CK hn.2 h']
theorem DR (ps:List (List Nat)) (cs:List Str) (vs:VS):lH true ((eU ps cs vs).map (·.1))=ps.map aN:=by
 unfold lH eU
 rw [List.map_map,List.map_map]
 refine List.map_congr_left fun p _=>?_
 show U.tup ((pk p).map kU)=.tup (p.map fun (n:Nat)=>U.int (n:Int))
 unfold pk
 rw [List.map_map];rfl
def Lw:dC:=fun us M Q=>∃ (cs:List Str) (tls:List Tl) (t:Tr) (vs:VS) (chs:CS),us=[iD cs tls,t.toU,mE (eU t.places cs vs)]/\Tab cs tls/\t.dep<=12/\t.size<=200/\(∀ tl∈tls,∀ e∈gF tl.pt,e.2∈cs)/\Bd t tls cs t.places.reverse vs chs/\Q (.bl true) M
theorem O3 (F:cZ K "_law_ground" "_law_ground" pB f fd) (hm:mg "_law_ground"=some (.ref f)) (kH:mg "reversed"=none) (dJ:mg "range"=none) (bZ:mg "len"=none) (kF:Callee P w K mg base 13 "_law_all" (sZ 12) []) (DM:Callee P w K mg base 8 "_law_shown" LK []):Callee P w K mg base 14 "_law_ground" Lw []:=by
 refine bT F hm fZ (wJ fun _ _ _ _ _ _ _ _ _=>rfl) (aD (aR 3 fZ.nd (KP))
 (aD (eB (wL kH (aA (aM kF (aA (uv 1) (aA (bG aB) aB))) aB)) (iH (n:=2) (bM (aZ (k:=1000) 4 fZ.nd) (bM (aZ (k:=1000) 5 fZ.nd) fK)))
 (aG (eB (As dJ (aA (fM i9 bZ (aA (aQ (uv 0) aI) aB)) aB)) (aZ (k:=1000) 6 fZ.nd)
 (aG (lQ (aM DM (aA (uv 0) (aA (uv 4) (aA (uv 5) (aA (uv 2) (aA (uv 3) aB)))))))))))
 (aD (eB (Nj (uv 2)) (aZ (k:=1000) 4 fZ.nd)
 (aG (eB (As dJ (aA (fM i9 bZ (aA (aQ (uv 0) aI) aB)) aB)) (aZ (k:=1000) 7 fZ.nd)
 (aG (bR (kS.pt (rO (bU rK (aQ (iR true (fun _=>True.intro) (uv 2) (uv 4)) (uv 7)) nH) (oH (bU IH (bG (aA (uv 4) (aA (uv 7) aB))) (uv 3)))))
 (aG (aW l8))
 bC)))))
 (aG (aW l8))))) ?_
 rintro us M Q ⟨cs,tls,t,vs,chs,rfl,hT,hd,hsz,hho,b,q⟩
 refine ⟨rfl,?_⟩
 have hnd:=hT.cls.nd
 have hc6:=hT.cls.len
 have htl:=hT.len
 refine aE fun V hV=>?_
 simp_all! only [bA,hName,Gz]
 intro kd hkd
 subst hV
 refine aE fun V hV=>?_
 refine eS (S:=⟨none,((dG t []).map jU).reverse⟩) (M1:=mup M kd (.dN [])) (fun R r=>by simp_all! only [Ah];exact ⟨t,[],rfl,hd,by decide,hsz,by decide,r⟩)
  (fun i τ Mj=>∃ (kv:List (eF × U)) (z4 z5 z6 z7:Option U),τ=[some (iD cs tls),some t.toU,some (mE (eU t.places cs vs)),some (.ref kd),z4,z5,z6,z7]/\Mj=mup M kd (.dN kv)/\kv.length<=i * 240/\∀ p∈t.places.reverse.take i,∀ c∈cs,(aY vs (p,c)).isSome=true->Kn kv cs (p,c)=true) ⟨[],none,none,none,none,rfl,rfl,by simp,fun p h=>by simp at h⟩ nk ?_ ?_
 ·rintro i u τ Mj e ⟨kv,z4,z5,z6,z7,rfl,rfl,hkl,hkn⟩
  have e':((dG t []).map jU).reverse[i]?=some u:=e
  rw [<- List.map_reverse,List.getElem?_map] at e'
  cases hj:(dG t []).reverse[i]? with
  | none=>rw [hj] at e';cases e'
  | some en =>
   rw [hj] at e'
   cases e'
   obtain ⟨s,hs1,hs2⟩:=rT t [] en (List.mem_reverse.mp (List.mem_of_getElem? hj))
   rw [List.nil_append] at hs1
   obtain ⟨p,t'⟩:=en
   simp only at hs1 hs2
   subst hs1
   have hpi:t.places.reverse[i]?=some p:=by
    have:t.places=(dG t []).map (·.1):=by rw [rL];simp
    rw [this,<- List.map_reverse,List.getElem?_map,hj];rfl
   have hil:i < t.size:=by
    have:=(List.getElem?_eq_some_iff.mp hpi).1
    rw [List.length_reverse,fE] at this;exact this
   have tkp:t.places.reverse.take (i + 1)=t.places.reverse.take i++[p]:=by rw [List.take_add_one,hpi];rfl
   have hdone:∀ e t2,e≠[]->t'.at e=some t2->p++e∈t.places.reverse.take i:=fun e t2 hne he=>by
    have hin:p++e∈t.places:=iL t _ t2 (by rw [nF t p e t' hs2];exact he)
    have hpre:t.places.reverse.Pairwise fun y x=>¬ y <+: x:=List.pairwise_reverse.mpr (jB t)
    have hsplit:t.places.reverse=t.places.reverse.take i++p :: t.places.reverse.drop (i + 1):=by
     conv=>lhs;rw [<- List.take_append_drop (i + 1) t.places.reverse,tkp]
     simp
    have hin2:p++e∈t.places.reverse:=List.mem_reverse.mpr hin
    rw [hsplit] at hin2 hpre
    rcases List.mem_append.mp hin2 with h | h
    ·exact h
    ·rcases List.mem_cons.mp h with h | h
     ·exact absurd (List.append_right_eq_self.mp h) hne
     ·have h2:=(List.pairwise_append.mp hpre).2.1
      exact absurd (List.prefix_append p e) ((List.pairwise_cons.mp h2).1 _ h)
   refine ⟨rfl,?_⟩
   simp_all! only [jU,gB,eT,iC,hName]
   refine eS (S:=⟨none,eI 0 cs.length⟩) (M1:=mup M kd (.dN kv)) (fun R r=>by simp_all! only [jY,dM,List.length_map,Int.toNat_natCast];exact ⟨by omega,by omega,r⟩)
    (fun j τ Mi=>∃ (kv2:List (eF × U)) (z6 z7:Option U),τ=[some (iD cs tls),some t.toU,some (mE (eU t.places cs vs)),some (.ref kd),some (aN p),some t'.toU,z6,z7]/\Mi=mup M kd (.dN kv2)/\kv2.length<=i * 240 + j * 39/\(∀ k,(cU kv k).isSome=true->(cU kv2 k).isSome=true)/\(wK kv2 cs vs p).length<=cs.length - j) ⟨kv,_,_,rfl,rfl,by omega,fun k h=>h,List.length_filter_le _ _⟩ nk ?_ ?_
   ·rintro j x τ Mi e ⟨kv2,y6,y7,rfl,rfl,hl2,hmono,hunk⟩
    obtain ⟨rfl,hjl⟩:=lY e
    simp_all! only [hName,hZ]
    refine ⟨cs,tls,t,t',p,mE (eU t.places cs vs),kd,vs,kv2,rfl,pI _ _,aH,fun M' _=>by rw [pI,pI],by omega,hT,hho,hs2,hsz,fun kv3 hS=>?_⟩
    have hmore:=hS.more hT b hho hs2 fun e t2 hne he c hc hv=>hmono _ (hkn _ (hdone e t2 hne he) c hc hv)
    rw [bX]
    refine ⟨kv3,_,_,rfl,rfl,?_,fun k h=>hS.mono k (hmono k h),by omega⟩
    have:=hS.len
    omega
   ·rintro τ Mi ⟨kv2,y6,y7,rfl,rfl,hl2,hmono,hunk⟩
    rw [show (Src.mk none (eI 0 cs.length)).xs.length=cs.length from n9 _ _] at hl2 hunk
    refine ⟨kv2,_,_,_,_,rfl,rfl,by omega,fun p' hp' c hc hv=>?_⟩
    rw [tkp] at hp'
    rcases List.mem_append.mp hp' with hp' | hp'
    ·exact hmono _ (hkn p' hp' c hc hv)
    ·cases List.mem_singleton.mp hp'
     have h0:wK kv2 cs vs p=[]:=List.eq_nil_of_length_eq_zero (by omega)
     cases hk:Kn kv2 cs (p,c) with
     | true=>rfl
     | false =>
      have:c∈wK kv2 cs vs p:=List.mem_filter.mpr ⟨hc,by rw [hv,hk];rfl⟩
      rw [h0] at this;cases this
 ·rintro τ Mj ⟨kv,z4,z5,z6,z7,rfl,rfl,hkl,hkn⟩
  have hlr:(Src.mk none ((dG t []).map jU).reverse).xs.length=t.places.reverse.length:=by
   show ((dG t []).map jU).reverse.length=_
   rw [List.length_reverse,List.length_map,oU,List.length_reverse,fE]
  rw [hlr,List.take_length] at hkn
  show V _ _
  subst hV
  refine aE fun V hV=>?_
  refine eS (S:=⟨none,t.places.map aN⟩) (M1:=mup M kd (.dN kv)) (fun R r=>by
    simp_all! only [F5,mE]
    rw [DR]
    exact r)
   (fun i τ Mj=>∃ (z4 z5 z6 z7:Option U),τ=[some (iD cs tls),some t.toU,some (mE (eU t.places cs vs)),some (.ref kd),z4,z5,z6,z7]/\Mj=mup M kd (.dN kv)) ⟨_,_,_,_,rfl,rfl⟩ nk ?_ ?_
  ·rintro i u τ Mj e ⟨y4,y5,y6,y7,rfl,rfl⟩
   obtain ⟨p,hp,rfl⟩:=List.mem_map.mp (List.mem_of_getElem? (show (t.places.map aN)[i]?=some u from e))
   simp_all! only [hName]
   refine eS (S:=⟨none,eI 0 cs.length⟩) (M1:=mup M kd (.dN kv)) (fun R r=>by simp_all! only [jY,dM,List.length_map,Int.toNat_natCast];exact ⟨by omega,by omega,r⟩)
    (fun j τ Mi=>∃ (z7:Option U),τ=[some (iD cs tls),some t.toU,some (mE (eU t.places cs vs)),some (.ref kd),some (aN p),y5,y6,z7]/\Mi=mup M kd (.dN kv)) ⟨_,rfl,rfl⟩ nk ?_ ?_
   ·rintro j x τ Mi e ⟨x7,rfl,rfl⟩
    obtain ⟨rfl,hjl⟩:=lY e
    obtain ⟨c,hc⟩:∃ c,cs[j]?=some c:=⟨_,List.getElem?_eq_getElem hjl⟩
    have hcm:=List.mem_of_getElem? hc
    have hix:=CK hnd hc
    have hlk:fF true (mup M kd (.dN kv)) (mE (eU t.places cs vs)) (aN p)=some (some (qR cs vs p)):=by rw [rM p (pI _ _),zH hp]
    have hat:eL (cs.map fun c=>eO (aY vs (p,c))) (0 + (j:Int))=some (eO (aY vs (p,c))):=by rw [Int.zero_add,<- hix];exact zI hcm
    have hsn:w5 (.tup [aN p,.int (0 + (j:Int))])=some (wX cs (p,c)):=by rw [Int.zero_add,<- hix];exact sW cs (p,c)
    have hno:rV (mup M kd (.dN kv)) (.ref kd) (.tup [aN p,.int (0 + (j:Int))])=some (cU kv (wX cs (p,c))):=by
     show (match mup M kd (.dN kv) kd,w5 (.tup [aN p,.int (0 + (j:Int))]) with | some (.dN kvs),some k=>some (cU kvs k) | _,_=>none)=_
     rw [aH,hsn]
    have hkc:=hkn p (List.mem_reverse.mpr hp) c hcm
    simp_all! only [hName]
    refine bD fun A B hA hB=>?_
    simp_all! only [bK,hlk,qR,hat]
    cases hv:aY vs (p,c) with
    | none =>
     simp_all! only [eO]
     subst hB
     simp only [bF]
     exact ⟨_,rfl,trivial⟩
    | some w =>
     rw [hv] at hkc
     have hkk:(cU kv (wX cs (p,c))).isSome=true:=hkc rfl
     simp_all! only [eO,vY,hno,hkk]
     subst hB
     simp only [bF]
     exact ⟨_,rfl,trivial⟩
   ·rintro τ Mi ⟨x7,rfl,rfl⟩
    exact ⟨_,_,_,_,rfl,rfl⟩
  ·rintro τ Mj ⟨y4,y5,y6,y7,rfl,rfl⟩
   show V _ _
   subst hV
   simp_all! only [bS]
   exact ⟨_,M,(Sub.refl M).mup hkd,.inl rfl,q⟩
end
end K28
namespace U2
open PySem PySem.Spec PyProof.Rows L2
def HF:aF:=fun _=>none
def GQ (sp:dC):dC:=fun us M Q=>∃ (a:Addr) (xs rest:List U),us=.ref a :: rest/\M a=some (.lst xs)/\(∀ b mo,M b=some mo->∃ l,mo=.lst l)/\sp (.lst xs :: rest) HF fun u M1=>(∃ b,u=.bl b)/\M1=HF/\Q u M
theorem Callee.lend {P:Program} {w:World} {K:PySem.W.Frag} {mg:Str->Option Value} {base:Heap} {j:Nat} {x:Str} {sp:dC} (c:Callee P w K mg base j x sp []):Callee P w K mg base j x (GQ sp) [] :=
 let ⟨f,fd,ps,dvs,ds,F,r⟩:=c.ex
 ⟨f,fd,ps,dvs,ds,F.imp fun vs H Q E ⟨us,M,Q',h1,h2,⟨a,xs,rest,e,ha,hl,h3⟩,h4⟩=>by
  subst e
  obtain ⟨v,vs',rfl,r1,r2⟩:=h2
  have hs:Sub HF M:=fun b mo h=>by cases h
  have st0:aS H M H HF:=hs.less
  have e1:=r1.ref
  subst e1
  refine ⟨.lst xs :: rest,HF,_,h1.sub hs,⟨_,_,rfl,MU h1 ha rfl st0,r2.stp st0⟩,h3,fun u v M1 H1 st rm1 ru ⟨⟨b,hb⟩,hM,q⟩=>?_⟩
  subst hb hM
  have st1:aS H M H1 M:=fun b o e m=>⟨(st b o e rfl).1,m⟩
  refine h4 _ v M H1 st1 (fun b mo hb=>?_) (by rw [ru.bl];exact dI) q
  obtain ⟨l,rfl⟩:=hl b mo hb
  obtain ⟨vs,g1,g2⟩:=h1 b _ hb
  exact ⟨vs,(st.to g1 rfl).1,g2.stp st1⟩,r⟩
end U2
namespace K28
open PySem L2 U2
section
variable {P:Program} {w:World} {K:PySem.W.Frag} {mg:Str->Option Value} {base:Heap} {f d d2 fl:Addr} {fd:FuncData}
theorem yG:∀ (kvs acc:List (List Key × U)),(kvs.map (·.1)).Nodup->(∀ kv∈kvs,cU acc kv.1=none)->lM acc kvs=acc++kvs
 | [],acc,_,_=>by simp [lM]
 | kv :: r,acc,hn,h=>by
  rw [List.map_cons,List.nodup_cons] at hn
  show lM (gI acc kv.1 kv.2) r=_
  rw [uH (h kv List.mem_cons_self),yG r _ hn.2 fun kv' hk=>?_]
  ·simp
  ·rw [<- uH (h kv List.mem_cons_self),xR]
   rw [if_neg (fun z=>hn.1 (by rw [<- z];exact List.mem_map_of_mem hk))]
   exact h kv' (List.mem_cons_of_mem _ hk)
theorem Hl (t:Tr):t.places.Nodup:=(jB t).imp fun {a b} (h:¬ b <+: a) (e:a=b)=>h (e ▸ List.prefix_refl a)
theorem Iu (t:Tr) (cs:List Str) (vs:VS):lM [] (eU t.places cs vs)=eU t.places cs vs:=by
 rw [yG _ _ ?_ (fun kv _=>rfl),List.nil_append]
 unfold eU
 rw [List.map_map]
 exact List.Pairwise.map _ (fun a b h z=>h (yJ z)) (Hl t)
theorem MZ (ps:List (List Nat)) (cs:List Str) (vs:VS):ps.map (fH cs vs)=(eU ps cs vs).map fun e=>.tup [.tup (e.1.map kU),e.2]:=by
 unfold eU
 rw [List.map_map]
 refine List.map_congr_left fun p _=>?_
 have h:aN p=.tup ((pk p).map kU):=by
  unfold pk
  rw [List.map_map];rfl
 show U.tup [aN p,_]=_
 rw [h];rfl
theorem MA {τ:SU} {M:aF} {p:Addr} {kvs:List (List Key × U)} (i:Nat) (hp:M p=none) (hi:τ[i]?=some (some (.ref p))):U2.Cv τ (mup M p (.dT kvs)) (τ.set i (some (mE kvs))) M:=by
 intro K H σ rm rs
 have hs:Sub M (mup M p (.dT kvs)):=(Sub.refl M).mup hp
 have st:aS H (mup M p (.dT kvs)) H M:=hs.less
 refine ⟨st,rm.sub hs,by rw [List.length_set];exact rs.1,fun j u hj=>?_⟩
 by_cases e:i=j
 ·subst e
  rw [List.getElem?_set_self (by rw [List.getElem?_eq_some_iff] at hi;exact hi.1)] at hj
  cases hj
  obtain ⟨v,h1,h2⟩:=rs.2 i _ hi
  cases h2.ref
  exact ⟨_,h1,JD rm aH hp st⟩
 ·rw [List.getElem?_set_ne e] at hj
  obtain ⟨v,h1,h2⟩:=rs.2 j u hj
  exact ⟨v,h1,h2.stp st⟩
theorem Am {M0 M:aF} {t r:Addr} {a b:List U} (h:Sub M0 M) (ht:M0 t=none) (hr:M0 r=none):Sub M0 (st2 M t r a b):=(h.mup ht).mup hr
def Lm (M:aF):Prop:=∀ b mo,M b=some mo->∃ l,mo=.lst l
theorem Lm.mup {M:aF} {a:Addr} {l:List U} (h:Lm M):Lm (U2.mup M a (.lst l)):=fun b mo e=>by
 by_cases z:b=a
 ·subst z;rw [aH] at e;cases e;exact ⟨l,rfl⟩
 ·rw [aO z] at e;exact h b mo e
theorem Lm.st2 {M:aF} {t r:Addr} {a b:List U} (h:Lm M):Lm (st2 M t r a b):=h.mup.mup
def sQ:Option Int->PyData
 | some w=>.int w
 | none=>.none
def nR (cs:List Str) (vs:VS) (p:List Nat):PyData:=.tuple [wM p,.tuple (cs.map fun c=>sQ (aY vs (p,c)))]
theorem Ra (o:Option Int):toD (eO o)=some (sQ o)/\(sQ o).canLay0=true/\(sQ o).depth<=1:=by
 cases o with
 | none=>exact ⟨rfl,rfl,by simp [sQ,PyData.depth]⟩
 | some w=>exact ⟨rfl,rfl,by simp [sQ,PyData.depth]⟩
theorem DU (f:Str->Option Int):∀ cs:List Str,eD (cs.map fun c=>eO (f c))=some (cs.map fun c=>sQ (f c))/\PyData.canLayAll0 (cs.map fun c=>sQ (f c))=true/\PyData.depthAll (cs.map fun c=>sQ (f c))<=1
 | []=>⟨rfl,rfl,by simp [PyData.depthAll]⟩
 | c :: r=>by
  obtain ⟨h1,h2,h3⟩:=DU f r
  obtain ⟨g1,g2,g3⟩:=Ra (f c)
  refine ⟨by simp only [List.map_cons,eD,g1,h1],by simp only [List.map_cons,PyData.canLayAll0,g2,h2];rfl,?_⟩
  simp only [List.map_cons,PyData.depthAll]
  omega
theorem Ng (cs:List Str) (vs:VS) (p:List Nat):toD (fH cs vs p)=some (nR cs vs p)/\(nR cs vs p).canLay0=true/\(nR cs vs p).depth<=10:=by
 obtain ⟨h1,h2,h3⟩:=CH p
 obtain ⟨g1,g2,g3⟩:=DU (fun c=>aY vs (p,c)) cs
 refine ⟨?_,?_,?_⟩
 ·simp [fH,aN,toD,eD,h1,g1,nR,wM]
 ·simp [nR,wM,PyData.canLay0,PyData.canLayAll0,h2,g2]
 ·simp [nR,wM,PyData.depth,PyData.depthAll] at h3 g3 ⊢
  omega
theorem C4 (cs:List Str) (vs:VS):∀ ps:List (List Nat),eD (ps.map (fH cs vs))=some (ps.map (nR cs vs))/\PyData.canLayAll0 (ps.map (nR cs vs))=true/\PyData.depthAll (ps.map (nR cs vs))<=10
 | []=>⟨rfl,rfl,by simp [PyData.depthAll]⟩
 | p :: r=>by
  obtain ⟨h1,h2,h3⟩:=C4 cs vs r
  obtain ⟨g1,g2,g3⟩:=Ng cs vs p
  refine ⟨by simp [eD,g1,h1],by simp [PyData.canLayAll0,g2,h2],?_⟩
  simp [PyData.depthAll] at h3 ⊢
  omega
theorem HP {cs:List Str} {vs vs2:VS} {ps:List (List Nat)} (h:∀ s,aY vs2 s=aY vs s):ps.map (fH cs vs2)=ps.map (fH cs vs):=by
 refine List.map_congr_left fun p _=>?_
 unfold fH
 simp only [h]
theorem KH {cs:List Str} {vs:VS} {ps:List (List Nat)} {a:Addr} {M:aF} {Q:UK} (ha:M a=some (.lst (ps.map (fH cs vs)))) (q:Q (.bl true) M):sX false (.ref a) (.lst (ps.map (fH cs vs))) M Q:=by
 obtain ⟨h1,h2,h3⟩:=C4 cs vs ps
 have t1:nN M (.ref a)=some (.list (ps.map (nR cs vs))):=by
  unfold nN
  simp only [ha]
  rw [h1];rfl
 have t2:nN M (.lst (ps.map (fH cs vs)))=some (.list (ps.map (nR cs vs))):=by
  show (eD (ps.map (fH cs vs))).map PyData.list=_
  rw [h1];rfl
 have hc:(PyData.list (ps.map (nR cs vs))).canLay0=true:=by simpa [PyData.canLay0] using h2
 show Cp false (.ref a) (.lst (ps.map (fH cs vs))) M Q
 refine ⟨_,_,t1,t2,hc,hc,?_,?_⟩
 ·simp [PyData.depth];omega
 ·rw [SeqAt.eqv_refl _ hc];exact q
theorem tK {cs:List Str}:∀ (p:Pt) (pl:List Nat),p.okC cs->∀ e∈(bN p pl).filterMap hF,e.2∈cs
 | .hole s,pl,h,e,he=>by
  simp [bN,hF] at he
  subst he;exact h.2
 | .any,pl,h,e,he=>by simp [bN,hF] at he
 | .fr _ _,pl,h,e,he=>by simp [bN,hF] at he
 | .turn a,pl,h,e,he=>by
  rw [bN,List.filterMap_cons_none (by rfl)] at he
  exact tK a _ h e he
 | .two o a b,pl,h,e,he=>by
  rw [bN,List.filterMap_cons_none (by rfl),List.filterMap_append] at he
  rcases List.mem_append.mp he with he | he
  ·exact tK a _ h.1 e he
  ·exact tK b _ h.2 e he
def yW:dC:=fun us M Q=>∃ ns:List Int,us=[.lst (ns.map .int)]/\ns.length<=63/\Lm M/\Q (.bl true) M
local macro_rules | `(tactic| simp_all! only [$xs,*]) => `(tactic| simp only [$xs,*, Bool.false_eq_true, Bool.not_false, Bool.not_true, List.append_nil, List.cons_append, List.getElem?_cons_succ, List.getElem?_cons_zero, List.length_cons, List.length_nil, List.map_cons, List.map_nil, List.nil_append, List.replicate, List.set_cons_succ, List.set_cons_zero, Nat.add_sub_cancel, Nat.reduceAdd, Nat.reduceLeDiff, Nat.reduceSub, Nat.sub_self, Option.getD_some, Option.some.injEq, and_true, CQ, Cu, at2, B5, t5, tO, tB, tF, m3, qK, mZ, xN, uP, kX, A5, Ba, Bc, Ca, cY, decide_false, decide_true, mB, l9, exists_eq_left', if_false, if_true, w6, pY, gG, dQ, dP, d7, dO, d8, dE, fQ, fL, gW, fV, gP, eY, fR, fP, gU, gD, gS, fA, gM, gX, iI, hG, iM, fX, gC, fO, gR, fT, gQ, eZ, gY, gZ, iP, gN, iK, fY, fB, fC, fW, e8, fN, eM, items, tY, jG, oQ, jM, xS, oY, jQ, bX, aH, reduceCtorEq, gT, BG, true_and, t6, qN, nB, tE, nZ, wQ, xA, uC, wN, oA, nE, k5, oB, nV, lW, xX, uI, oO, zA, vC, qJ, n5, w4, tJ, tH, qL, xU, tD, kM, tI, m7, oF, kO, yK, sM, nU, n6, n8, eV, OC, lR, tG, sI, Ct, o5, t7, fD, u6, oG, o6, o4, pH, nG, o7, pT])
theorem OV (F:cZ K "law" "law" nY f fd) (pK:mg "list"=none) (bZ:mg "len"=none) (Cw:mg "dict"=none) (aX:Callee P w K mg base 1 "_law_draw" kY []) (Dx:Callee P w K mg base 8 "_law_table" DY []) (lV:Callee P w K mg base 14 "_law_tree" (rQ 12) []) (BE:Callee P w K mg base 16 "labels" C5 []) (Di:Callee P w K mg base 2 "_law_kinds" (GQ LI) []) (kF:Callee P w K mg base 13 "_law_all" (sZ 12) []) (Ge:Callee P w K mg base 14 "_law_fits" LM []) (Cg:Callee P w K mg base 14 "_law_ground" Lw []):jN P w K mg base rH 18 f fd ["script"] (iX K yW):=by
 refine DZ F nI (fun us M Q h=>by obtain ⟨x,rfl,_⟩:=h;rfl) (aD (aR 1 nI.nd (cR (own:=true) (aA (xM (Hr (own:=false)) pK (aA (pO (own:=false) (uv 0) mP (mN aI)) aB)) (aA aI (aA aI (aA aI aB))))))
 (aD (aR 2 nI.nd (aM Dx (aA (uv 1) aB)))
 (aD (aR 3 nI.nd (aM lV (aA (uv 1) (aA (cX (own:=false) aI (aM aX (aA (uv 1) (aA aI aB)))) (aA (cR (own:=true) (aA aI aB)) aB)))))
 (aD (bR (bU eK (aM aX (aA (uv 1) (aA aI aB))) aI)
 (aG (aR 3 nI.nd (aM lV (aA (uv 1) (aA aI (aA (cR (own:=true) (aA aI aB)) aB))))))
 bC)
 (aD (aR 4 nI.nd (aM BE (aA (uv 2) (aA (uv 3) aB))))
 (aD (bR (pJ (k6 (aM Di (aA (uv 4) (aA (aM kF (aA (uv 3) (aA (bG aB) aB))) (aA (fM i9 bZ (aA (aQ (uv 2) aI) aB)) aB))))))
 (aG (aW l8))
 bC)
 (aD (Qg (aR 5 nI.nd (xM MB Cw (aA (uv 4) aB))))
 (aD (bR (pJ (k6 (aM Ge (aA (uv 2) (aA (uv 3) (aA (uv 5) aB))))))
 (aG (aW l8))
 bC)
 (aD (bR (pJ (k6 (aM Cg (aA (uv 2) (aA (uv 3) (aA (uv 5) aB))))))
 (aG (aW l8))
 bC)
 (aD (aR 6 nI.nd (xM (Hr (own:=false)) pK (aA (uv 4) aB)))
 (aD (lQ (p8 (uv 4) (aA aI aB)))
 (aG (aW (Ai eK (aM BE (aA (uv 2) (aA (uv 3) aB))) (uv 6))))))))))))))) ?_
 rintro us M Q ⟨ns,rfl,hl,hLm,q⟩
 refine aE fun V hV=>?_
 simp_all! only [bA,hName,rS]
 intro t ht
 rw [rS]
 subst hV
 refine aE fun V hV=>?_
 simp_all! only [bA,hName]
 refine ⟨t,dB ns none (some 63),0,0,rfl,aH,fun cs tls a1 b1 c1 hT h0 h1=>?_⟩
 rw [bX]
 have hc6:=hT.cls.len
 have hho:∀ tl∈tls,∀ e∈gF tl.pt,e.2∈cs:=fun tl ht=>tK tl.pt [] (hT.okC tl ht)
 subst hV
 refine aE fun V hV=>?_
 simp_all! only [bA,hName]
 refine ⟨t,dB ns none (some 63),a1,b1,c1,4,rfl,by decide,by decide,aH,h0,by omega,fun k a2 b2 c2 k0 k1 g1 g2=>?_⟩
 rw [bX]
 simp_all! only [true_and]
 intro r hr
 have htr:t≠r:=fun z=>by subst z;rw [aH] at hr;cases hr
 have hMr:M r=none:=by rw [aO (fun z=>htr z.symm)] at hr;exact hr
 obtain ⟨n,hn⟩:∃ n:Nat,2 + k=(n:Int):=⟨(2 + k).toNat,by omega⟩
 rw [hn]
 refine ⟨n,by omega,t,r,dB ns none (some 63),a2,b2,c2,14,rfl,by omega,by omega,htr,by rw [aO htr,aH],aH,by decide,by omega,by omega,fun tr a3 b3 c3 tok td tsz tl1 g3 g4=>?_⟩
 have e0:st2 (mup (mup M t (.lst (cS (dB ns none (some 63)) a2 b2 c2))) r (.lst [.int 14])) t r (cS (dB ns none (some 63)) a3 b3 c3) [.int (14 - tr.size)]=st2 M t r (cS (dB ns none (some 63)) a3 b3 c3) [.int (14 - tr.size)]:=oK htr
 rw [e0]
 have hs1:tr.size<=200:=by omega
 subst hV
 refine aE fun V hV=>?_
 have go:∀ (tr:Tr) (Mx:aF),tr.dep<=12->tr.size<=200->Sub M Mx->Lm Mx->V [some (.lst (ns.map U.int)),some (.ref t),some (iD cs tls),some tr.toU,none,none,none] Mx:=by
  intro tr Mx td ts hS hLx
  subst hV
  refine aE fun V hV=>?_
  simp_all! only [bA,hName]
  refine ⟨cs,tls,tr,rfl,hT,td,by omega,fun vs chs b l hl=>?_⟩
  have hrl:tr.places.length<=200:=by rw [fE];exact ts
  subst hV
  refine aE fun V hV=>?_
  refine bD fun A B hA hB=>?_
  simp_all! only [true_and]
  refine ⟨tr,[],rfl,td,by decide,ts,by decide,?_⟩
  simp_all! only [jY,dM,List.length_map]
  refine ⟨l,_,_,rfl,aH,hLx.mup,cs,tr,vs,rfl,hc6,ts,⟨_,rfl⟩,rfl,?_⟩
  simp_all! only [true_and]
  subst hB
  simp only [bF]
  subst hV
  refine aE fun V hV=>?_
  simp_all! only [QW,bA,hName,CO]
  refine ⟨eU tr.places cs vs,MZ _ _ _,fun p hp=>?_⟩
  rw [Iu]
  refine ⟨_,_,MA 5 hp rfl,?_⟩
  simp_all! only [true_and]
  subst hV
  refine aE fun V hV=>?_
  refine bD fun A B hA hB=>?_
  simp_all! only [true_and]
  refine ⟨cs,tls,tr,mE (eU tr.places cs vs),vs,chs,rfl,pI _ _,hT,td,ts,hho,b,?_⟩
  simp_all! only [true_and]
  subst hB
  simp only [bF]
  subst hV
  refine aE fun V hV=>?_
  refine bD fun A B hA hB=>?_
  simp_all! only [true_and]
  refine ⟨cs,tls,tr,vs,chs,rfl,hT,td,ts,hho,b,?_⟩
  simp_all! only [true_and]
  subst hB
  simp only [bF]
  subst hV
  refine aE fun V hV=>?_
  simp_all! only [bA,hName]
  subst hV
  refine aE fun V hV=>?_
  simp_all! only [hZ]
  refine ⟨⟨_,jE aH⟩,big (by rw [List.length_map];omega),?_⟩
  subst hV
  simp_all! only [bS]
  refine ⟨cs,tls,tr,rfl,hT,td,by omega,fun vs2 chs2 b2 l2 hl2=>?_⟩
  rw [HP fun s=>b2.uniq b s]
  refine KH aH ?_
  have hS1:=hS.mup (p:=l) (o:=.lst (tr.places.map (fH cs vs)++[.int 0])) (U2.Sub.none hS hl)
  exact ⟨_,M,hS1.mup (U2.Sub.none hS1 hl2),.inl rfl,q⟩
 refine bD fun A B hA hB=>?_
 simp_all! only [true_and]
 refine ⟨t,dB ns none (some 63),a3,b3,c3,8,rfl,by decide,by decide,eC htr,by omega,by omega,fun w8 a4 b4 c4 k2 k3 g5 g6=>?_⟩
 rw [dH htr]
 simp_all! only [true_and]
 refine fS (fun _=>?_) (fun _=>?_)
 ·subst hA
  simp_all! only [bA,hName]
  intro r2 hr2
  have htr2:t≠r2:=fun z=>by subst z;rw [eC htr] at hr2;cases hr2
  have hrr2:r2≠r:=fun z=>by subst z;rw [iQ] at hr2;cases hr2
  have hMr2:M r2=none:=by unfold st2 at hr2;rw [aO hrr2,aO (fun z=>htr2 z.symm)] at hr2;exact hr2
  refine ⟨12,by omega,t,r2,dB ns none (some 63),a4,b4,c4,40,rfl,by decide,by decide,htr2,by rw [aO htr2];exact eC htr,aH,by decide,by omega,by omega,fun tr2 a5 b5 c5 tok2 td2 tsz2 tl2 g7 g8=>?_⟩
  exact go tr2 _ td2 (by omega) (Am ((Am (Sub.refl M) ht hMr).mup hMr2) ht hMr2) hLm.st2.mup.st2
 ·subst hB
  simp only [bF]
  exact go tr _ (by omega) hs1 (Am (Sub.refl M) ht hMr) hLm.st2
end
theorem BL {K:PySem.W.Frag} {H:Hp} {M:aF}:∀ ns:List Int,aK K H M (ns.map U.int) (ns.map V.int)
 | []=>.nil
 | _ :: r=>.cons eJ (BL r)
theorem HK {K:PySem.W.Frag} {H:Hp} {a:Addr} {ns:List Int} {E:XK} (hl:ns.length<=63) (hS:dY K H a (ns.map V.int)):iX K yW [.ref a] H (fun v _=>v=.bl true) E:=by
 refine ⟨[.lst (ns.map .int)],fun _=>none,fun u _=>u=.bl true,(fun a mo e=>by cases e),.cons ?_ .nil,⟨ns,rfl,hl,(fun b mo e=>by cases e),rfl⟩,fun u v M1 H1 _ _ ru q=>by subst q;exact ru.bl⟩
 simp only [aJ]
 refine ⟨a,_,rfl,?_,BL ns⟩
 rcases hS with h | h
 ·exact .inl ⟨trivial,h⟩
 ·exact .inr h
def cW (K:PySem.W.Frag) (n:Str) (st:Stmt) (f:Addr):Prop:=∃ fd,PySem.W.nsIn K mainGlobals n=some (some (.ref f))/\cZ K n n st f fd
theorem Rp {K:PySem.W.Frag} {n:Str} {st:Stmt} {f:Addr} {oc:Value} {od an:Option Addr} {osl:Array (Option Value)} {kV doc pm cdv ct:Value} (a:PySem.W.nsIn K mainGlobals n=some (some (.ref f))) (l:K.lookup f=some ⟨oc,od,.func (PySem.W.fnOf n n (kJ st) (gK st) (aV st) .none kV doc pm an cdv ct),osl⟩) (c:PySem.W.codeIn K cdv n=true) (k:PySem.W.keepIn K (.ref f)=true):cW K n st f:=⟨_,a,HI l c k⟩
open PyProof.Rows in
theorem all_mk {l:PySem.W.OpenLaw} {w:World} {K:PySem.W.Frag} {h:Heap} {mg:Str->Option Value} {fa f0 f1 f2 f3 f4 f5 f6 f7 f8 f9 f10 f11 f12 f13 f14 f15 f16 f17 f18 f19 f20 f21 f22 f23 f24 f25 f26 f27 f28 f29 f30 f31:Addr} (X:K.In h) (G:h.Ns mainGlobals mg) (hfa:mg "law"=some (.ref fa))
  (a0:cW K "parts_of" uM f0) (a1:cW K "places_of" jK f1) (a2:cW K "shape_at" uN f2) (a3:cW K "lies_on_leaf" mI f3) (a4:cW K "parts" AJ f4) (a5:cW K "places" xB f5) (a6:cW K "tree_at" vB f6) (a7:cW K "holes" AA f7) (a8:cW K "lies" yZ f8) (a9:cW K "tiles_at" tP f9) (a10:cW K "join_spots" oN f10) (a11:cW K "fill_least" pS f11) (a12:cW K "least_of_all" mR f12) (a13:cW K "as_paper" t9 f13) (a14:cW K "joined_price" mO f14) (a15:cW K "labels" x6 f15) (a16:cW K "_law_draw" sT f16) (a17:cW K "_law_number" oX f17) (a18:cW K "_law_pattern" lD f18) (a19:cW K "_law_tile" tR f19) (a20:cW K "_law_plain" qX f20) (a21:cW K "_law_table" q9 f21) (a22:cW K "_law_tree" n4 f22) (a23:cW K "_law_spots" m8 f23) (a24:cW K "_law_all" p7 f24) (a25:cW K "_law_cost" uG f25) (a26:cW K "_law_fits" sS f26) (a27:cW K "_law_whole" qO f27) (a28:cW K "_law_kinds" qZ f28) (a29:cW K "_law_shown" qW f29) (a30:cW K "_law_ground" pB f30)
  {od an:Option Addr} {sl:Array (Option Value)} {oc kV dc pm cd ct:Value} (aL:PySem.W.nsIn K mainGlobals "law"=some (some (.ref f31))) (lL:K.lookup f31=some ⟨oc,od,.func (PySem.W.fnOf "law" "law" (kJ nY) (gK nY) (aV nY) .none kV dc pm an cd ct),sl⟩) (cL:PySem.W.codeIn K cd "law"=true) (kL:PySem.W.keepIn K (.ref f31)=true)
  {dt0:Addr} (ta0:PySem.W.nsIn K mainGlobals "SIGNS"=some (some (.ref dt0))) (tb0:KTD.tabLook KTD.flatLooks (fun b=>K.lookup b) dt0 (Aa iG)=true) (tc0:KTD.hashesOf (fun b=>K.lookup b) dt0=(Aa iG).map fun p=>(PySem.strKind l.prog w).hash p.1)
  (z0:PySem.W.nsIn K mainGlobals "isinstance"=some none) (z1:PySem.W.nsIn K mainGlobals "bool"=some none) (z2:PySem.W.nsIn K mainGlobals "int"=some none) (z3:PySem.W.nsIn K mainGlobals "enumerate"=some none) (z4:PySem.W.nsIn K mainGlobals "all"=some none) (z5:PySem.W.nsIn K mainGlobals "zip"=some none) (z6:PySem.W.nsIn K mainGlobals "list"=some none) (z7:PySem.W.nsIn K mainGlobals "len"=some none) (z8:PySem.W.nsIn K mainGlobals "reversed"=some none) (z9:PySem.W.nsIn K mainGlobals "sum"=some none) (z10:PySem.W.nsIn K mainGlobals "tuple"=some none) (z11:PySem.W.nsIn K mainGlobals "sorted"=some none) (z12:PySem.W.nsIn K mainGlobals "range"=some none) (z13:PySem.W.nsIn K mainGlobals "dict"=some none)
  : ∃ fd:FuncData,(∀ (s:Shared) (v:Value),BindsTo s fd ⟨[v],[]⟩ [("script",v)])/\∀ base:Heap,K.In base->base.Ns mainGlobals mg->jN l.prog w K mg base rH 18 fa fd ["script"] (iX K yW):=by
 have V:∀ {x:Str} {f:Addr},PySem.W.nsIn K mainGlobals x=some (some (.ref f))->mg x=some (.ref f):=PySem.W.mg_of X G
 have N:∀ {x:Str},PySem.W.nsIn K mainGlobals x=some none->mg x=none:=PySem.W.mg_none_of X G
 have e:=hfa.symm.trans (V aL)
 cases e
 have QH:=HI (st:=nY) lL cL kL
 obtain ⟨_,tT,Ft⟩:=a0;have tT:=V tT
 obtain ⟨_,mY,wY⟩:=a1;have mY:=V mY
 obtain ⟨_,sN,Gi⟩:=a2;have sN:=V sN
 obtain ⟨_,mG,AO⟩:=a3;have mG:=V mG
 obtain ⟨_,Ax,L7⟩:=a4;have Ax:=V Ax
 obtain ⟨_,xW,JZ⟩:=a5;have xW:=V xW
 obtain ⟨_,uZ,Hw⟩:=a6;have uZ:=V uZ
 obtain ⟨_,Ab,Ma⟩:=a7;have Ab:=V Ab
 obtain ⟨_,Cn,Pz⟩:=a8;have Cn:=V Cn
 obtain ⟨_,t8,Fo⟩:=a9;have t8:=V t8
 obtain ⟨_,pD,Cr⟩:=a10;have pD:=V pD
 obtain ⟨_,pF,Dc⟩:=a11;have pF:=V pF
 obtain ⟨_,mT,Ag⟩:=a12;have mT:=V mT
 obtain ⟨_,uE,Ga⟩:=a13;have uE:=V uE
 obtain ⟨_,iY,An⟩:=a14;have iY:=V iY
 obtain ⟨_,x8,JI⟩:=a15;have x8:=V x8
 obtain ⟨_,tV,FO⟩:=a16;have tV:=V tV
 obtain ⟨_,o8,C8⟩:=a17;have o8:=V o8
 obtain ⟨_,nO,Bv⟩:=a18;have nO:=V nO
 obtain ⟨_,uL,Fw⟩:=a19;have uL:=V uL
 obtain ⟨_,qM,DB⟩:=a20;have qM:=V qM
 obtain ⟨_,qQ,DP⟩:=a21;have qQ:=V qQ
 obtain ⟨_,tN,EY⟩:=a22;have tN:=V tN
 obtain ⟨_,qY,DJ⟩:=a23;have qY:=V qY
 obtain ⟨_,u5,IC⟩:=a24;have u5:=V u5
 obtain ⟨_,tM,Gd⟩:=a25;have tM:=V tM
 obtain ⟨_,sY,Gj⟩:=a26;have sY:=V sY
 obtain ⟨_,qS,Dw⟩:=a27;have qS:=V qS
 obtain ⟨_,q8,DA⟩:=a28;have q8:=V q8
 obtain ⟨_,qI,DF⟩:=a29;have qI:=V qI
 obtain ⟨_,pG,CN⟩:=a30;have pG:=V pG
 have AF:=V ta0
 have Ay:zR l.prog w K dt0 iG:=tab_of (by decide +kernel) tb0 tc0
 have eQ:=N z0
 have Ce:=N z1
 have nW:=N z2
 have cD:=N z3
 have lE:=N z4
 have oC:=N z5
 have pK:=N z6
 have bZ:=N z7
 have kH:=N z8
 have F3:=N z9
 have i4:=N z10
 have mL:=N z11
 have dJ:=N z12
 have Cw:=N z13
 refine ⟨PySem.W.fnOf "law" "law" (kJ nY) (gK nY) (aV nY) .none kV dc pm an cd ct,fun s v=>.of_eq rfl,fun base _ _=>?_⟩
 have c0:=DI (P:=l.prog) (w:=w) (base:=base) Ft tT Ay AF
 have c1:=Kc L7 Ax c0
 have c2:=yA (P:=l.prog) (w:=w) (base:=base) AO mG
 have c3:=CD Pz Cn lE oC c2 c0 c1 6
 have c4:=zM wY mY cD c0 6
 have c5:=wZ wY mY cD c0 12
 have c6:=Iz JZ xW c5
 have c7:=Dl Gi sN c0
 have c8:=Fi Hw uZ c7
 have c9:=Kq Ma Ab c4 c7
 have e0:=DO Fo t8 cD c8 c3 c9
 have e1:=zG (P:=l.prog) (w:=w) (base:=base) (mg:=mg) An F3
 have e2:=Bw Cr pD True.intro e1
 have e3:=Mk (Kr Dc pF True.intro e2)
 have e4:=yE (Iq Ag mT kH c6 e0 e3)
 have e6:=Dt Ga uE True.intro i4 c6
 have e7:=HG JI x8 iY e6 e4
 have g0:=LV (P:=l.prog) (w:=w) (base:=base) FO tV bZ
 have g1:=GU C8 o8 g0
 have g2:=Eb Bv nO bZ mL g0 g1 4
 have g3:=L9 Fw uL bZ g0 g2
 have g4:=Jo DB qM g0
 have g5:=JQ DP qQ i4 dJ bZ cD g0 g4 g3
 have g6:=B8 EY tN g0 g1 12
 have h0:=QK (P:=l.prog) (w:=w) (base:=base) Dw qS eQ nW Ce
 have h1:=GJ (P:=l.prog) (w:=w) (base:=base) DJ qY nW dJ bZ 6
 have h2:=D0 (P:=l.prog) (w:=w) (base:=base) IC u5 dJ bZ 12
 have h3:=PV (P:=l.prog) (w:=w) (base:=base) Gd tM
 have h4:=NT Gj sY h2 h1 h3
 have h5:=(O5 DA q8 eQ pK i4 bZ oC lE h0).lend
 have h6:=Ph DF qI lE h1 h3
 have h7:=O3 CN pG kH dJ bZ h2 h6
 exact OV QH pK bZ Cw g0 g5 g6 e7 h5 h2 h4 h7
theorem walk {l:PySem.W.OpenLaw} {q:Program} {loose:List Str} {XP:(Str->Option Value)->Heap->Prop} {YP:World->Heap->Prop} {d:DefRec} {K:Params->PySem.W.Frag} (hn:l.most=some 63) (hdf:d.params.defaults=[])
  (hY:∀ (w:World) (h:Heap),YP w h->(K w.params).In h)
  (F:∀ (w:World) (mg:Str->Option Value) (fa:Addr) (h:Heap),(K w.params).In h->h.Ns mainGlobals mg->mg d.name=some (.ref fa) ->
   ∃ fd:FuncData,(∀ (s:Shared) (u:Value),BindsTo s fd ⟨[u],[]⟩ [("script",u)])/\∀ base:Heap,(K w.params).In base->base.Ns mainGlobals mg->jN l.prog w (K w.params) mg base rH 18 fa fd ["script"] (iX (K w.params) yW)) :
  PySem.W.WalkO q loose XP YP l.row.toRowW d [] (fun f vs=>PySem.call f vs) :=
 L2.MR (n:=63) (k:=18) (x:="script") (CX:=fun _=>rH) (sp:=fun w=>iX (K w.params) yW) hn (by decide) hdf ⟨rfl,by decide,by decide⟩ hY F (fun _ _ a ns hl _ hS=>HK hl hS) fun _ _ _ _ _ z=>z
end K28
namespace PySem.W.Fast
def tw10064130641458046956:=0
def tw10163005498051174778:=0
def tw10163783060106567407:=0
def tw102471899349964823:=0
def tw10317195330054289671:=0
def tw10340462153075862450:=0
def tw10362019001832112463:=0
def tw10546656496663893733:=0
def tw10609039585994801173:=0
def tw10695903932158408131:=0
def tw10762879051009450282:=0
def tw1092652803918965213:=0
def tw10934568052379276732:=0
def tw10959492543021630297:=0
def tw10992961908166392241:=0
def tw11286211289645070355:=0
def tw11515727086662230533:=0
def tw11722457816144849960:=0
def tw11735743913314198900:=0
def tw11979299287950536226:=0
def tw12095478849795688263:=0
def tw12102373536305077157:=0
def tw12244221129743611455:=0
def tw12257410958659053236:=0
def tw12308060621171163106:=0
def tw12419097624221555474:=0
def tw12475449071268098492:=0
def tw12494985661320641874:=0
def tw12535853598841423967:=0
def tw1288019193424130377:=0
def tw13005178463356255190:=0
def tw13051843686464567982:=0
def tw13094648969877441432:=0
def tw13140761514442969138:=0
def tw13238908526898897713:=0
def tw13402857437257134874:=0
def tw13667539000735194081:=0
def tw13702520441551241135:=0
def tw13901516649182896592:=0
def tw13908527612778665970:=0
def tw14030588146510776976:=0
def tw14177976177262181634:=0
def tw14179062745190790346:=0
def tw14185619439958279031:=0
def tw14376387689020747187:=0
def tw14401447063098247172:=0
def tw14472104407759531237:=0
def tw14534581567398567994:=0
def tw14625418513242050221:=0
def tw14643816560738218500:=0
def tw14808584079438143783:=0
def tw15015814962125824880:=0
def tw15025692450280988859:=0
def tw15097532133350815241:=0
def tw15107458522741443889:=0
def tw15119304711651543949:=0
def tw15169701458482991334:=0
def tw15311306728061587324:=0
def tw15315760744604644208:=0
def tw15374493471067475978:=0
def tw15431455046754990023:=0
def tw15471665648073820260:=0
def tw15622600891749029050:=0
def tw15690129003549631890:=0
def tw15710245016316860809:=0
def tw15739472232072768802:=0
def tw15784402647709024772:=0
def tw15794899625785120642:=0
def tw16032241595398491301:=0
def tw16036810931028276208:=0
def tw16086221798186329069:=0
def tw16130841415033009644:=0
def tw16135385946822802442:=0
def tw16222505971257258681:=0
def tw16257703905244343825:=0
def tw16477371241618698601:=0
def tw16483055226468553773:=0
def tw16541296312826606207:=0
def tw1654634664637059807:=0
def tw16554578404866102397:=0
def tw16863747537310465148:=0
def tw16864483786559777311:=0
def tw1686813659833758719:=0
def tw17061906956745421577:=0
def tw171227065072319479:=0
def tw17222670307344704931:=0
def tw17226428138262740889:=0
def tw17246626399406343370:=0
def tw17466638471900187675:=0
def tw17674574436976830774:=0
def tw1789659276785622004:=0
def tw17942673075523660518:=0
def tw18024697905177603994:=0
def tw18045796388504196704:=0
def tw18152801563786990815:=0
def tw18176000596858807652:=0
def tw18232160972987002044:=0
def tw18271328119409384575:=0
def tw18308739159024911815:=0
def tw1832050796731191290:=0
def tw18369802141936489555:=0
def tw1843357680714899733:=0
def tw1864748283464952776:=0
def tw1897480698291231411:=0
def tw1932129491712808882:=0
def tw1993841840764751274:=0
def tw2243498629777329841:=0
def tw2245407498960598211:=0
def tw2392419570668504995:=0
def tw2434928787950793209:=0
def tw2496010559578044476:=0
def tw2722063041666972915:=0
def tw2881664963841495288:=0
def tw2915556391980191376:=0
def tw3087434946909472405:=0
def tw3135259568913613150:=0
def tw327613342107328082:=0
def tw3444262133367344259:=0
def tw3542667035460060490:=0
def tw3545954763402123695:=0
def tw3587203986219897522:=0
def tw3641312468062708433:=0
def tw3675602694798799830:=0
def tw3686804174219709916:=0
def tw3907119796491976253:=0
def tw3950741202369270448:=0
def tw398361913861528655:=0
def tw4120373734189505262:=0
def tw4302739253211605885:=0
def tw432999379613859765:=0
def tw4421802674001809362:=0
def tw4431142544193630790:=0
def tw4560810935834831529:=0
def tw4591370949458833088:=0
def tw4644799844521330252:=0
def tw4664669161413615083:=0
def tw4735157772210408492:=0
def tw4894344533908253093:=0
def tw4934866178010061051:=0
def tw4986030235364601275:=0
def tw5027085432183047570:=0
def tw5133446922262129875:=0
def tw526106866957174327:=0
def tw5356755503475624016:=0
def tw5588152809030455090:=0
def tw5778282588592450509:=0
def tw5857441664456512127:=0
def tw6007457546755639510:=0
def tw610728800416237457:=0
def tw6111666802638212399:=0
def tw6152827488547442508:=0
def tw6199222416437088038:=0
def tw6241406560419832123:=0
def tw6361351413905679112:=0
def tw6438636932785218483:=0
def tw6611003866615260742:=0
def tw6843873227406478726:=0
def tw6917257129506152867:=0
def tw6928838536940138328:=0
def tw7152550317695692213:=0
def tw7264107608263528181:=0
def tw7273201524784320503:=0
def tw7282950110103223704:=0
def tw745212737855235051:=0
def tw7476657899492722411:=0
def tw7538676220542312826:=0
def tw7727593411174443341:=0
def tw7773819480325513110:=0
def tw7851025807078527076:=0
def tw7918628689273787715:=0
def tw8100619876493024262:=0
def tw8192860441089246828:=0
def tw8265512555113776098:=0
def tw8437326286180617272:=0
def tw8440135273748404554:=0
def tw8517324763979453742:=0
def tw8601623688338157793:=0
def tw8761296619352606994:=0
def tw8792639507772828332:=0
def tw8816828807951723928:=0
def tw8821232034674734921:=0
def tw8859909609937606849:=0
def tw889884411320290177:=0
def tw8914674194138377844:=0
def tw8982660367029561289:=0
def tw9045250856554194961:=0
def tw9127021063096207724:=0
def tw9169659037059063761:=0
def tw9178690469770359600:=0
def tw9251748363451408563:=0
def tw9258726370425050615:=0
def tw9360701364265401713:=0
def tw9405336741828470679:=0
def tw9559319050618306119:=0
def tw9895794364316579878:=0
def tw9942253346883330781:=0
def tw9994652159165382677:=0
end PySem.W.Fast
open PySem PySem.W PyProof.Rows
set_option maxRecDepth 100000 in
set_option maxHeartbeats 0 in
theorem PySem.Challenge.cw_rowsmith_k28_labels_are_least_prices_holds : PySem.Challenge.rw_rowsmith_k28_labels_are_least_prices.Holds := by
 w_on;o_law;k_head;(case hw=>w_witness2)
 k_fill
 refine K28.walk (l:=PySem.Challenge.rw_rowsmith_k28_labels_are_least_prices) rfl rfl (fun w h Y=>PySem.W.kIn_of Y) ?F
 case F =>
  intro w mg fa h KX G hmg
  refine' K28.all_mk KX G hmg ?a0 ?a1 ?a2 ?a3 ?a4 ?a5 ?a6 ?a7 ?a8 ?a9 ?a10 ?a11 ?a12 ?a13 ?a14 ?a15 ?a16 ?a17 ?a18 ?a19 ?a20 ?a21 ?a22 ?a23 ?a24 ?a25 ?a26 ?a27 ?a28 ?a29 ?a30 ?aL ?lL ?cL ?kL ?ta0 ?tb0 ?tc0 ?z0 ?z1 ?z2 ?z3 ?z4 ?z5 ?z6 ?z7 ?z8 ?z9 ?z10 ?z11 ?z12 ?z13
  all_goals first | (refine' K28.Rp ?a ?l ?c ?k;(case a=>k_is);(case l=>k_is);(case c=>k_is);(case k=>k_is)) | skip
  (case aL=>k_is)
  (case lL=>k_is)
  (case cL=>k_is)
  (case kL=>k_is)
  (case ta0=>k_is)
  (case tb0=>kernel_rfl)
  (case tc0=>kernel_rfl)
  (case z0=>k_is)
  (case z1=>k_is)
  (case z2=>k_is)
  (case z3=>k_is)
  (case z4=>k_is)
  (case z5=>k_is)
  (case z6=>k_is)
  (case z7=>k_is)
  (case z8=>k_is)
  (case z9=>k_is)
  (case z10=>k_is)
  (case z11=>k_is)
  (case z12=>k_is)
  (case z13=>k_is)
#print axioms PySem.Challenge.cw_rowsmith_k28_labels_are_least_prices_holds