import PyProof.Rows.All
import Wide.All
import OpenK.AllK
import Wide.FinOn
import Lean
import PyProof.EqAt
import PyProof.EqKinds
import PyProof.TupleCall
import PySem.Challenge.RW_rowsmith_k86_exchanges_done
import PyProof.TupleKey
import KE.KRevIter
import PyProof.ListRange
import PyProof.CollectIter
import PyProof.TupleOfGen
import PyProof.EnumMake
import PyProof.Rows.SortWalk
import PyProof.ListMulRoad
import PyProof.AutoListH
import PyProof.ExcInit
import PyProof.InstStoreFacts
import PyProof.RulesAs
import PyProof.NsDelKeeps
import PyProof.ExcBaseAll.ValueError
import PyProof.ExcArgsOwn
import KE.KIsAll
set_option linter.all false
set_option maxRecDepth 100000
set_option maxHeartbeats 4000000
namespace PySem
open Sem (wp)
section
variable {prog:Program} {w:World} {K:Type} [DecidableEq K] (knd:KeyKind prog w K)
def cN (h:Heap) (x:List K × K) (a:Addr):Prop:=∃ o n b v,h.get? a=some o/\o.cls=.type "tuple"/\o.data=.seq #[.ref b,v] n/\IsTupleKey knd h x.1 b/\knd.is x.2 v=true
variable {knd}
theorem cN.typeIs {s:Shared} {x:List K × K} {a:Addr} (p:cN knd s.heap x a):s.TypeIs (.ref a) "tuple":=let ⟨o,_,_,_,ho,hc,_⟩:=p;⟨o,ho,hc⟩
theorem cN.inj {h:Heap} {a:Addr} {x y:List K × K} (hx:cN knd h x a) (hy:cN knd h y a):x=y:=by
 obtain ⟨o,n,b,v,ho,_,hd,h1,h2⟩:=hx
 obtain ⟨o',n',b',v',ho',_,hd',h1',h2'⟩:=hy
 obtain rfl:o=o':=Option.some.inj (ho.symm.trans ho')
 rw [hd] at hd'
 injection hd' with e _
 have e1:(.ref b:Value)=.ref b'/\v=v':=by simpa using e
 obtain ⟨e2,rfl⟩:=e1
 cases e2
 exact Prod.ext (h1.inj h1') (knd.inj _ _ _ h2 h2')
theorem cN.keeps {h h':Heap} {x:List K × K} {a d:Addr} {o:Obj} {es ep} (p:cN knd h x a) (ho:h.get? d=some o) (hd:o.data=.dict es ep) (hs:Heap.SameBut d h h'):cN knd h' x a:=by
 obtain ⟨o',n,b,v,ho',hc,hd',h1,h2⟩:=p
 have hne:a≠d:=by
  rintro rfl
  obtain rfl:o'=o:=Option.some.inj (ho'.symm.trans ho)
  rw [hd] at hd';exact nomatch hd'
 exact ⟨o',n,b,v,(hs.2 a hne).trans ho',hc,hd',h1.keeps ho hd hs,h2⟩
def o9 (knd:KeyKind prog w K) (x:List K × K):Int:=reduceHash (Builtin.Tuple.tupleHashOf [tupleKeyHash knd x.1,knd.hash x.2])
variable {A:Around} {E:Value->Shared->Prop} {s:Shared}
theorem uS {x:List K × K} {a:Addr} {Q:Int->Shared->Prop} (hu:A.units + 1 < cLine) (hk:cN knd s.heap x a) (h:Q (o9 knd x) { s with toks:=s.toks + (x.1.length + 3) }) :
  wpAny (model prog w) A (pyHash (.ref a)) Q E s:=by
 have hT:=hk.typeIs
 obtain ⟨o,n,b,v,ho,_,hd,h1,h2⟩:=hk
 unfold pyHash
 first | unfold pyHashByItsType | skip
 first | refine wpAny_bind (wpAny_cRoomFor_or (.inr (by omega)) ?_) | skip
 refine wpAny_bind (wpAny_specialOf hT F.slot_tuple_hash.lookup ?_)
 show wpAny _ _ (if (some (Value.builtin "tuple.__hash__") == some Value.none)=true then _ else _) Q E s
 rw [if_neg (by rw [beq_builtin_none];exact Bool.false_ne_true)]
 refine wpAny_bind (wpAny_specialOf hT F.slot_tuple_hash.lookup ?_)
 show wpAny _ _ (callSpecialIfBoundUnlessNone? (.ref a) "__hash__" _ >>= _) Q E s
 refine wpAny_bind (wpAny_callSpecialIfBoundUnlessNone?_slot hT F.slot_tuple_hash (wpAny_call_entry F.slot_tuple_hash hT F.entry_tuple_hash ?_ (F.args_tuple_hash_1 _)))
 show wpAny _ _ (Builtin.Tuple.tupleItemsOf (.ref a) >>= _) _ _ s
 refine wpAny_bind (wpAny_tupleItemsOf ho hd ?_)
 refine wpAny_bind ?_
 rw [<- Array.forIn_toList]
 refine wpAny_forIn_list _
  (fun rest (r:Array Int) s'=>(rest=[.ref b,v]/\r.toList=[]/\s'=s)\/(rest=[v]/\r.toList=[tupleKeyHash knd x.1]/\s'={ s with toks:=s.toks + (x.1.length + 1) })\/(rest=[]/\r.toList=[tupleKeyHash knd x.1,knd.hash x.2]/\s'={ s with toks:=s.toks + (x.1.length + 1) + 1 }))
  _ ?_ ?_ _ _ (.inl ⟨rfl,rfl,rfl⟩)
 ·rintro y rest r s' (⟨hr,hb,rfl⟩ | ⟨hr,hb,rfl⟩ | ⟨hr,_⟩)
  ·cases hr
   refine wpAny_bind (wpAny_pyHash_tuple (by first | exact hu | (show A.units + 1 < cLine;exact hu)) h1 ?_)
   first
    | exact wpAny_pure (.inr (.inl ⟨rfl,by simp [hb],rfl⟩))
    | exact wpAny_bind (wpAny_pure (wpAny_pure (.inr (.inl ⟨rfl,by simp [hb],rfl⟩))))
  ·cases hr
   refine wpAny_bind (knd.pyHash h2 ?_)
   first
    | exact wpAny_pure (.inr (.inr ⟨rfl,by simp [hb],rfl⟩))
    | exact wpAny_bind (wpAny_pure (wpAny_pure (.inr (.inr ⟨rfl,by simp [hb],rfl⟩))))
  ·cases hr
 ·rintro r s' (⟨hr,_⟩ | ⟨hr,_⟩ | ⟨_,hb,rfl⟩)
  ·cases hr
  ·cases hr
  ·show wpAny _ _ (retInt (Builtin.Tuple.tupleHashOf r.toList)) _ _ _
   rw [hb]
   refine wpAny_ret_mkInt ?_
   show wpAny _ _ (if (decide (-(2:Int) ^ 63<=Builtin.Tuple.tupleHashOf [tupleKeyHash knd x.1,knd.hash x.2]) && decide (Builtin.Tuple.tupleHashOf [tupleKeyHash knd x.1,knd.hash x.2] < 2 ^ 63))=true then _ else _) Q E _
   unfold o9 reduceHash at h
   by_cases hr:(decide (-(2:Int) ^ 63<=Builtin.Tuple.tupleHashOf [tupleKeyHash knd x.1,knd.hash x.2]) && decide (Builtin.Tuple.tupleHashOf [tupleKeyHash knd x.1,knd.hash x.2] < 2 ^ 63))=true
   ·rw [if_pos hr]
    rw [if_pos hr] at h
    exact wpAny_pure (by simpa [Nat.add_assoc] using h)
   ·rw [if_neg hr]
    rw [if_neg hr] at h
    exact wpAny_bind (wpAny_rule (wpAny_pure (by simpa [Nat.add_assoc] using h)))
theorem BK {x y:List K × K} {a b:Addr} {P:Fin->Shared->Prop} (hu:A.units < cLine) (hx:cN knd s.heap x a) (hy:cN knd s.heap y b) (h:P (.done (.ret (.bool (decide (x=y))))) s) :
  wpAny (model prog w) A (Builtin.«tuple.__eq__» ⟨[.ref a,.ref b],[]⟩) P E s:=by
 have hTb:=hy.typeIs
 obtain ⟨oa,na,a1,v1,hoa,_,hda,p1,q1⟩:=hx
 obtain ⟨ob,nb,a2,v2,hob,_,hdb,p2,q2⟩:=hy
 show wpAny _ _ (isInstance (.ref b) (.type "tuple") >>= _) _ _ s
 refine wpAny_bind (wpAny_isInstance hTb isSubtype_tuple_tuple ?_)
 simp only [Bool.not_true,Bool.false_eq_true,if_false]
 refine wpAny_bind (wpAny_tupleItemsOf hoa hda ?_)
 refine wpAny_bind (wpAny_tupleItemsOf hob hdb ?_)
 refine wpAny_bind ?_
 refine wpAny_forIn_list _
  (fun rest r s'=>r.1=none/\s'=s/\((rest=[(.ref a1,.ref a2),(v1,v2)])\/(rest=[(v1,v2)]/\x.1=y.1)\/(rest=[]/\x=y)))
  _ ?_ ?_ _ _ ⟨rfl,rfl,.inl rfl⟩
 ·rintro ⟨u,v⟩ rest r s' ⟨hr,rfl,hz | ⟨hz,e⟩ | ⟨hz,_⟩⟩
  ·cases hz
   refine wpAny_bind (wpAny_eqBool_tuple hu p1 p2 ?_)
   by_cases hk:x.1=y.1
   ·rw [decide_eq_true hk]
    simp only [Bool.not_true,Bool.false_eq_true,if_false]
    exact wpAny_pure ⟨rfl,rfl,by simp [hk]⟩
   ·rw [decide_eq_false hk]
    simp only [Bool.not_false,if_true]
    have hf:decide (x=y)=false:=decide_eq_false fun z=>hk (by rw [z])
    rw [hf] at h
    exact wpAny_bind (wpAny_pure (wpAny_pure (wpAny_pure h)))
  ·cases hz
   refine wpAny_bind (knd.eqBool (a:=x.2) (b:=y.2) q1 q2 ?_)
   by_cases hk:x.2=y.2
   ·rw [decide_eq_true hk]
    simp only [Bool.not_true,Bool.false_eq_true,if_false]
    exact wpAny_pure ⟨rfl,rfl,.inr (.inr ⟨trivial,Prod.ext e hk⟩)⟩
   ·rw [decide_eq_false hk]
    simp only [Bool.not_false,if_true]
    have hf:decide (x=y)=false:=decide_eq_false fun z=>hk (by rw [z])
    rw [hf] at h
    exact wpAny_bind (wpAny_pure (wpAny_pure (wpAny_pure h)))
  ·cases hz
 ·rintro ⟨r1,r2⟩ s' ⟨hr,rfl,hz | ⟨hz,_⟩ | ⟨_,e⟩⟩
  ·cases hz
  ·cases hz
  ·simp only at hr
   subst hr
   refine wpAny_pure ?_
   rw [decide_eq_true e] at h
   exact h
theorem uR {x y:List K × K} {a b:Addr} {Q:Bool->Shared->Prop} (hu:A.units + 1 < cLine) (hx:cN knd s.heap x a) (hy:cN knd s.heap y b) (h:Q (decide (x=y)) s) :
  wpAny (model prog w) A (eqBool (.ref a) (.ref b)) Q E s:=by
 unfold eqBool
 try with_reducible refine wpAny_holding ?_
 show wpAny _ _ (if (Value.ref a == Value.ref b)=true then _ else _) Q E s
 by_cases hab:(Value.ref a == Value.ref b)=true
 ·rw [if_pos hab]
  have e:a=b:=by have:=eq_of_beq hab;injection this
  subst e
  obtain rfl:=hx.inj hy
  exact wpAny_bind (wpAny_rule (wpAny_pure (by simpa using h)))
 ·rw [if_neg hab]
  exact wpAny_bind (wpAny_richCompare_same_room (op:=.Eq) hx.typeIs hy.typeIs F.slot_tuple_eq
   (wpAny_call_entry F.slot_tuple_eq hx.typeIs F.entry_tuple_eq (BK (by first | exact hu | (show A.units + 1 < cLine;exact hu)) hx hy ⟨_,rfl,(fun e=>nomatch e),wpAny_truthy_bool h⟩) (F.args_tuple_eq_2 _ _)) (by omega))
theorem rK {x:List K × K} {a:Addr} {Q:Bool->Shared->Prop} (hk:cN knd s.heap x a) (h:Q true s):wpAny (model prog w) A (eqIsQuiet 8 (.ref a)) Q E s:=by
 have hT:=hk.typeIs
 obtain ⟨o,n,b,v,ho,_,hd,h1,h2⟩:=hk
 have inner:∀ {Q:Bool->Shared->Prop},Q true s->wpAny (model prog w) A (eqIsQuiet 7 (.ref b)) Q E s:=by
  intro Q h
  have hT:=h1.typeIs
  obtain ⟨o,items,n,ho,_,hd,hi⟩:=h1
  unfold eqIsQuiet
  refine wpAny_bind (wpAny_specialOf hT F.slot_tuple_eq.lookup ?_)
  show wpAny _ _ (isInstance (.ref b) (.type "tuple") >>= _) _ _ s
  refine wpAny_bind (wpAny_isInstance hT isSubtype_tuple_tuple ?_)
  simp only [Bool.not_true,Bool.false_eq_true,if_false]
  refine wpAny_bind (wpAny_seqItems ho hd ?_)
  refine wpAny_bind ?_
  show wpAny _ _ (forIn items _ _) _ _ s
  rw [<- Array.forIn_toList]
  refine wpAny_forIn_list _ (fun rest r s'=>r.1=none/\s'=s/\∀ v∈rest,carriedByValue v=true) _ ?_ ?_ _ _ ⟨rfl,rfl,hi.byValue⟩
  ·rintro v rest r s' ⟨hr,rfl,hall⟩
   rw [eqIsQuiet_byValue _ (hall v List.mem_cons_self)]
   refine wpAny_bind (wpAny_pure ?_)
   simp only [Bool.not_true,Bool.false_eq_true,if_false]
   exact wpAny_pure ⟨rfl,rfl,fun u hu'=>hall u (List.mem_cons_of_mem _ hu')⟩
  ·rintro ⟨r1,r2⟩ s' ⟨hr,rfl,_⟩
   simp only at hr
   subst hr
   exact wpAny_pure h
 unfold eqIsQuiet
 refine wpAny_bind (wpAny_specialOf hT F.slot_tuple_eq.lookup ?_)
 show wpAny _ _ (isInstance (.ref a) (.type "tuple") >>= _) _ _ s
 refine wpAny_bind (wpAny_isInstance hT isSubtype_tuple_tuple ?_)
 simp only [Bool.not_true,Bool.false_eq_true,if_false]
 refine wpAny_bind (wpAny_seqItems ho hd ?_)
 refine wpAny_bind ?_
 show wpAny _ _ (forIn #[Value.ref b,v] _ _) _ _ s
 rw [<- Array.forIn_toList]
 refine wpAny_forIn_list _ (fun rest r s'=>r.1=none/\s'=s/\(rest=[.ref b,v]\/rest=[v]\/rest=[])) _ ?_ ?_ _ _ ⟨rfl,rfl,.inl rfl⟩
 ·rintro u rest r s' ⟨hr,rfl,hz | hz | hz⟩
  ·cases hz
   refine wpAny_bind (inner ?_)
   simp only [Bool.not_true,Bool.false_eq_true,if_false]
   exact wpAny_pure ⟨rfl,rfl,by simp⟩
  ·cases hz
   rw [eqIsQuiet_byValue _ (knd.byValue _ _ h2)]
   refine wpAny_bind (wpAny_pure ?_)
   simp only [Bool.not_true,Bool.false_eq_true,if_false]
   exact wpAny_pure ⟨rfl,rfl,by simp⟩
  ·cases hz
 ·rintro ⟨r1,r2⟩ s' ⟨hr,rfl,_⟩
  simp only at hr
  subst hr
  exact wpAny_pure h
end
def Ou {prog:Program} {w:World} {K:Type} [DecidableEq K] (knd:KeyKind prog w K):HeapKind prog w (List K × K) where
 is:=cN knd
 hash:=o9 knd
 draws:=fun x=>x.1.length + 3
 room:=fun A=>A.units + 1 < cLine
 inj:=fun hx hy=>hx.inj hy
 keeps:=fun x ho hd hs=>x.keeps ho hd hs
 pyHash:=fun hu hk h=>uS hu hk h
 eqBool:=fun hu hx hy h=>uR hu hx hy h
 quiet:=fun hk h=>rK hk h
end PySem
set_option Elab.async false
namespace L2
open PySem PySem.Spec PyProof.Rows
abbrev Key:=Sum Int Str
def PX:Key->Value->Bool
 | .inl k,v=>Value.isInt k v
 | .inr x,v=>Value.isStrOf x v
def WE (w:World):Key->Int
 | .inl k=>hashInt k
 | .inr x=>hashStr w x
theorem eH:∀ {k:Key} {v:Value},PX k v=true->(∃ i t,k=Sum.inl i/\v=Value.int i t)\/(∃ x t,k=Sum.inr x/\v=Value.str x t)
 | .inl i,v,h=>by
  obtain ⟨t,e⟩:=Value.isInt_shape (k:=i) (v:=v) h
  exact .inl ⟨i,t,rfl,e⟩
 | .inr x,v,h=>by
  obtain ⟨t,e⟩:=Value.isStrOf_shape (x:=x) (v:=v) h
  exact .inr ⟨x,t,rfl,e⟩
theorem TX (a b:Int):decide ((Sum.inl a:Key)=Sum.inl b)=(a == b):=by
 by_cases e:a=b
 ·subst e;simp
 ·have h:¬ (Sum.inl a:Key)=Sum.inl b:=fun q=>e (Sum.inl.inj q)
  rw [decide_eq_false h]
  exact (beq_eq_false_iff_ne.mpr e).symm
theorem Tx (a b:Str):decide ((Sum.inr a:Key)=Sum.inr b)=decide (a=b):=by
 by_cases e:a=b
 ·subst e;simp
 ·have h:¬ (Sum.inr a:Key)=Sum.inr b:=fun q=>e (Sum.inr.inj q)
  rw [decide_eq_false h,decide_eq_false e]
theorem SS (a:Int) (b:Str):decide ((Sum.inl a:Key)=Sum.inr b)=false:=decide_eq_false (fun q=>nomatch q)
theorem S5 (a:Str) (b:Int):decide ((Sum.inr a:Key)=Sum.inl b)=false:=decide_eq_false (fun q=>nomatch q)
def tW (prog:Program) (w:World):PySem.KeyKind prog w Key where
 is:=PX
 hash:=WE w
 inj:=fun v a b ha hb=>by
  rcases eH ha with ⟨i,t,rfl,rfl⟩ | ⟨x,t,rfl,rfl⟩
  ·rcases eH hb with ⟨j,u,rfl,e⟩ | ⟨y,u,rfl,e⟩
   ·injection e with e1 _;rw [e1]
   ·exact nomatch e
  ·rcases eH hb with ⟨j,u,rfl,e⟩ | ⟨y,u,rfl,e⟩
   ·exact nomatch e
   ·injection e with e1 _;rw [e1]
 byValue:=fun k v h=>by
  rcases eH h with ⟨i,t,rfl,rfl⟩ | ⟨x,t,rfl,rfl⟩ <;> rfl
 pyHash:=fun hv h=>by
  rcases eH hv with ⟨i,t,rfl,rfl⟩ | ⟨x,t,rfl,rfl⟩
  ·exact wpAny_pyHash_int h
  ·exact wpAny_pyHash_str h
 eqBool:=fun hu hv h=>by
  rcases eH hu with ⟨i,t,rfl,rfl⟩ | ⟨x,t,rfl,rfl⟩
  ·rcases eH hv with ⟨j,u,rfl,rfl⟩ | ⟨y,u,rfl,rfl⟩
   ·rw [TX] at h;exact wpAny_eqBool_int h
   ·rw [SS] at h;exact SeqAt.EqAt.int_str i t y u _ _ _ _ h
  ·rcases eH hv with ⟨j,u,rfl,rfl⟩ | ⟨y,u,rfl,rfl⟩
   ·rw [S5] at h;exact SeqAt.EqAt.str_int x t j u _ _ _ _ h
   ·rw [Tx] at h;exact wpAny_eqBool_str h
 «strs»:=fun k x t v h=>by
  rcases eH h with ⟨i,u,rfl,e⟩ | ⟨y,u,rfl,e⟩
  ·exact nomatch e
  ·injection e with e1 _
   subst e1
   cases v <;> rfl
inductive V where
 | non | bl (b:Bool) | int (i:Int) | str (x:Str) | byt (b:Array UInt8) | flt (b:UInt64) | ref (a:Addr) | ty (n:String)
 deriving DecidableEq
def RelV:V->Value->Prop
 | .non,u=>u=Value.none
 | .bl b,u=>u=Value.bool b
 | .int i,u=>∃ t,u=Value.int i t
 | .str x,u=>∃ t,u=Value.str x t
 | .byt b,u=>∃ t,u=Value.bytes b t
 | .flt b,u=>∃ t,u=Value.float b t
 | .ref a,u=>u=Value.ref a
 | .ty n,u=>u=Value.type n
abbrev Vals:List V->List Value->Prop:=Paired RelV
theorem Vals.length {xs:List V} {us:List Value} (r:Vals xs us):xs.length=us.length:=Paired.length r
theorem Vals.get:∀ {xs:List V} {us:List Value} {i:Nat} {x:V},Vals xs us->xs[i]?=some x->∃ u,us[i]?=some u/\RelV x u
 | _,_,_,_,.nil,e=>by simp at e
 | _,_,0,_,.cons r _,e=>by simp at e;subst e;exact ⟨_,rfl,r⟩
 | _,_,i + 1,x,.cons _ t,e=>by
  obtain ⟨u,h1,h2⟩:=Vals.get (i:=i) (x:=x) t (by simpa using e)
  exact ⟨u,by simpa using h1,h2⟩
theorem Vals.set {x:V} {u:Value} (r:RelV x u):∀ {xs:List V} {us:List Value} (i:Nat),Vals xs us->Vals (xs.set i x) (us.set i u)
 | _,_,_,.nil=>.nil
 | _,_,0,.cons _ t=>.cons r t
 | _,_,i + 1,.cons q t=>.cons q (Vals.set r i t)
theorem Vals.append:∀ {xs ys:List V} {us ws:List Value},Vals xs us->Vals ys ws->Vals (xs++ys) (us++ws)
 | _,_,_,_,.nil,s=>s
 | _,_,_,_,.cons r t,s=>.cons r (Vals.append t s)
theorem Vals.take:∀ {xs:List V} {us:List Value} (n:Nat),Vals xs us->Vals (xs.take n) (us.take n)
 | _,_,0,_=>.nil
 | _,_,_ + 1,.nil=>.nil
 | _,_,n + 1,.cons r t=>.cons r (Vals.take n t)
theorem Vals.drop:∀ {xs:List V} {us:List Value} (n:Nat),Vals xs us->Vals (xs.drop n) (us.drop n)
 | _,_,0,r=>r
 | _,_,_ + 1,.nil=>.nil
 | _,_,n + 1,.cons _ t=>Vals.drop n t
def B7:Option V->Option Value->Prop
 | some v,some u=>RelV v u
 | none,none=>True
 | _,_=>False
def KV {κ:Type}:List (κ × V)->List (κ × Value)->Prop:=Paired fun (p:κ × V) (q:κ × Value)=>p.1=q.1/\RelV p.2 q.2
def kV:Key->V
 | .inl i=>.int i
 | .inr x=>.str x
inductive HO where
  | lst (xs:List V)
  | tup (xs:List V)
  | dK (kvs:List (Key × V)) | dT (kvs:List (List Key × V)) | dN (kvs:List ((List Key × Key) × V))
  | set (S:Int->Bool) (n:Nat)
  | ins (C dx:Addr) (fs:List (Str × V))
  | own (x:Addr)
  | xd (fs:List (Str × V))
  | met (f x:Addr)
  | rng (lo hi:Int)
  | frz (o:Obj) (u:HO)
  | tbl (ps:Array Value)
  | ext (φ:Heap->Prop)
abbrev Hp:=Addr->Option HO
def upd (H:Hp) (a:Addr) (o:HO):Hp:=fun b=>if b=a then some o else H b
theorem b8 {H:Hp} {a:Addr} {o:HO}:upd H a o a=some o:=by unfold upd;rw [if_pos rfl]
theorem bD {H:Hp} {a b:Addr} {o:HO} (h:b≠a):upd H a o b=H b:=by unfold upd;rw [if_neg h]
theorem W5 {H:Hp} {a b:Addr} {o u:HO} (h:H a=some o) (h':H b=some u) (d:o≠u):a≠b:=by
 intro e;subst e;rw [h] at h';exact d (Option.some.inj h')
theorem bJ {H:Hp} {a b:Addr} {o:HO} (h:H a=some o) (h':H b=none):a≠b:=by
 intro e;subst e;rw [h] at h';cases h'
def iH (h:Heap) (a:Addr) (items:Array Value):Prop:=∃ o,h.get? a=some o/\o.cls=.type "tuple"/\o.dict=none/\∃ n,o.data=.seq items n
theorem iH.tup {h:Heap} {a:Addr} {items:Array Value} (x:iH h a items):IsTup h a items:=let ⟨o,h1,h2,_,h3⟩:=x;⟨o,h1,h2,h3⟩
theorem iH.new (h:Heap) (items:Array Value):iH (h.push { cls:=.type "tuple",data:=.seq items }) h.objs.size items:=⟨_,Heap.get?_push_size _ rfl,rfl,rfl,_,rfl⟩
section
variable (P:Program) (w:World)
def dB (H:Hp) (h:Heap) (a:Addr):HO->Prop
 | .lst xs=>xs.length<=sizeLine/\∃ (its:List Value) (n:Nat),Vals xs its/\h.get? a=some { cls:=.type "list",data:=.seq its.toArray n }
 | .tup xs=>xs.length<=sizeLine/\∃ its:List Value,Vals xs its/\iH h a its.toArray
 | .dK kvs=>kvs.length<=sizeLine/\(a == sysModules)=false/\∃ vs,KV kvs vs/\h.DictOf (tW P w) a vs
 | .dT kvs=>kvs.length<=sizeLine/\(a == sysModules)=false/\∃ xs:List (List Key × Addr × Value),
   Paired (fun (p:List Key × V) (q:List Key × Addr × Value)=>p.1=q.1/\H q.2.1=some (.tup (p.1.map kV))/\RelV p.2 q.2.2) kvs xs /\
   ∃ o es ep,h.get? a=some o/\o.ExactDict/\o.data=.dict es ep/\es.toList=xs.map (entryOfKey (tupleKind (tW P w)))/\(xs.map (·.1)).Nodup
 | .dN kvs=>kvs.length<=sizeLine/\(a == sysModules)=false/\∃ xs:List ((List Key × Key) × Addr × Value),
   Paired (fun (p:(List Key × Key) × V) (q:(List Key × Key) × Addr × Value)=>p.1=q.1/\(∃ c,H q.2.1=some (.tup [.ref c,kV p.1.2])/\H c=some (.tup (p.1.1.map kV)))/\RelV p.2 q.2.2) kvs xs /\
   ∃ o es ep,h.get? a=some o/\o.ExactDict/\o.data=.dict es ep/\es.toList=xs.map (entryOfKey (Ou (tW P w)))/\(xs.map (·.1)).Nodup
 | .set S n=>h.SetOf (intKind P w) a S n
 | .ins C dx fs=>H dx=some (.own a)/\fs.length<=1000/\dx≠a/\h.get? a=some (PySem.W.instObj C dx) /\
   ∃ mA,h.Ns1 dx mA/\(∀ f,B7 (fs.lookup f) (mA f))/\PySem.Within mA (fs.map (·.1))
 | .own _=>∃ o,h.get? a=some o
 | .xd fs=>∃ mA,h.Ns1 a mA/\∀ f,B7 (fs.lookup f) (mA f)
 | .rng lo hi=>∃ t u v,h.get? a=some { cls:=.type "range",data:=.fields #[.int lo t,.int hi u,.int 1 v] }
 | .frz o u=>h.get? a=some o/\dB H h a u
 | .tbl ps=>h.get? a=some { cls:=.none,data:=.fields ps }
 | .met f x=>h.get? a=some (PySem.W.methodObj (.ref f) (.ref x))
 | .ext φ=>φ h/\(∃ o,h.get? a=some o)/\∀ h1 h2:Heap,φ h1->(∀ o,h1.get? a=some o->h2.get? a=some o)->φ h2
def eE (H:Hp) (h:Heap):Prop:=∀ a o,H a=some o->dB P w H h a o
end
section
variable {P:Program} {w:World} {H H':Hp} {h h':Heap} {a:Addr} {o:HO}
theorem dB.lt (x:dB P w H h a o):a < h.objs.size:=by
 cases o with
 | lst xs=>obtain ⟨_,_,_,_,e⟩:=x;exact Heap.lt_size e
 | tup xs=>obtain ⟨_,_,_,p⟩:=x;exact IsTup.lt (iH.tup p)
 | dK kvs=>obtain ⟨_,_,_,_,o,_,_,e,_⟩:=x;exact Heap.lt_size e
 | dT kvs=>obtain ⟨_,_,_,_,o,_,_,e,_⟩:=x;exact Heap.lt_size e
 | dN kvs=>obtain ⟨_,_,_,_,o,_,_,e,_⟩:=x;exact Heap.lt_size e
 | set S n=>obtain ⟨o,_,_,_,e,_⟩:=x;exact Heap.lt_size e
 | ins C dx fs=>obtain ⟨_,_,_,e,_⟩:=x;exact Heap.lt_size e
 | own y=>obtain ⟨_,e⟩:=x;exact Heap.lt_size e
 | xd fs=>obtain ⟨_,⟨_,_,_,e,_⟩,_⟩:=x;exact Heap.lt_size e
 | rng lo hi=>obtain ⟨_,_,_,e⟩:=x;exact Heap.lt_size e
 | frz ob u=>obtain ⟨e,_⟩:=x;exact Heap.lt_size e
 | tbl ps=>exact Heap.lt_size (show h.get? a=some _ from x)
 | met f y=>exact Heap.lt_size (show h.get? a=some _ from x)
 | ext φ=>obtain ⟨_,⟨_,e⟩,_⟩:=x;exact Heap.lt_size e
theorem Paired.mapP {α β:Type} {F G:α->β->Prop}:∀ {l₁:List α} {l₂:List β},Paired F l₁ l₂->(∀ a b,F a b->G a b)->Paired G l₁ l₂
 | _,_,.nil,_=>.nil
 | _,_,.cons r t,f=>.cons (f _ _ r) (Paired.mapP t f)
theorem dB.stay (x:dB P w H h a o) (k:∀ b u,(b=a\/H b=some (.own a))->h.get? b=some u->h'.get? b=some u)
  (ho:∀ b,H b=some (.own a)->H' b=some (.own a)) (ht:∀ b xs,H b=some (.tup xs)->H' b=some (.tup xs)):dB P w H' h' a o:=by
 induction o with
 | lst xs=>obtain ⟨z,its,n,r,e⟩:=x;exact ⟨z,its,n,r,k _ _ (.inl rfl) e⟩
 | tup xs=>obtain ⟨z,its,r,ob,e,c⟩:=x;exact ⟨z,its,r,ob,k _ _ (.inl rfl) e,c⟩
 | dK kvs=>obtain ⟨z,y,vs,r,ob,es,ep,e,c⟩:=x;exact ⟨z,y,vs,r,ob,es,ep,k _ _ (.inl rfl) e,c⟩
 | dT kvs =>
  obtain ⟨z,y,xs,r,ob,es,ep,e,c⟩:=x
  exact ⟨z,y,xs,Paired.mapP r fun p q z=>⟨z.1,ht _ _ z.2.1,z.2.2⟩,ob,es,ep,k _ _ (.inl rfl) e,c⟩
 | dN kvs =>
  obtain ⟨z,y,xs,r,ob,es,ep,e,c⟩:=x
  exact ⟨z,y,xs,Paired.mapP r fun p q z=>⟨z.1,let ⟨c,h1,h2⟩:=z.2.1;⟨c,ht _ _ h1,ht _ _ h2⟩,z.2.2⟩,ob,es,ep,k _ _ (.inl rfl) e,c⟩
 | set S n=>obtain ⟨ob,es,ep,t,e,c⟩:=x;exact ⟨ob,es,ep,t,k _ _ (.inl rfl) e,c⟩
 | ins C dx fs =>
  obtain ⟨d,z,ne,e,mA,⟨od,es,ep,e2,c⟩,r⟩:=x
  exact ⟨ho _ d,z,ne,k _ _ (.inl rfl) e,mA,⟨od,es,ep,k _ _ (.inr d) e2,c⟩,r⟩
 | own y=>obtain ⟨ob,e⟩:=x;exact ⟨ob,k _ _ (.inl rfl) e⟩
 | xd fs=>obtain ⟨mA,⟨od,es,ep,e,c⟩,r⟩:=x;exact ⟨mA,⟨od,es,ep,k _ _ (.inl rfl) e,c⟩,r⟩
 | rng lo hi=>obtain ⟨t,u,v,e⟩:=x;exact ⟨t,u,v,k _ _ (.inl rfl) e⟩
 | frz ob u ih=>obtain ⟨e,q⟩:=x;exact ⟨k _ _ (.inl rfl) e,ih q⟩
 | tbl ps =>
  have e:h.get? a=some { cls:=.none,data:=.fields ps }:=x
  show h'.get? a=some { cls:=.none,data:=.fields ps }
  exact k a _ (.inl rfl) e
 | met f y =>
  have e:h.get? a=some (PySem.W.methodObj (.ref f) (.ref y)):=x
  show h'.get? a=some (PySem.W.methodObj (.ref f) (.ref y))
  exact k a _ (.inl rfl) e
 | ext φ=>obtain ⟨p,⟨o,e⟩,st⟩:=x;exact ⟨st _ _ p fun o q=>k _ _ (.inl rfl) q,⟨o,k _ _ (.inl rfl) e⟩,st⟩
theorem eE.lt (x:eE P w H h) (e:H a=some o):a < h.objs.size:=(x a o e).lt
theorem eE.fresh (x:eE P w H h) (e:h.objs.size<=a):H a=none:=by
 cases q:H a with
 | none=>rfl
 | some u=>exact absurd (Nat.lt_of_lt_of_le (x.lt q) e) (Nat.lt_irrefl _)
theorem eE.kept (x:eE P w H h) (k:∀ b u,h.get? b=some u->h'.get? b=some u):eE P w H h':=fun a o e =>
 (x a o e).stay (fun b u _ q=>k b u q) (fun _ q=>q) fun _ _ q=>q
theorem eE.laid (x:eE P w H h) (k:∀ b u,h.get? b=some u->h'.get? b=some u) (hp:h.objs.size<=a) (new:dB P w (upd H a o) h' a o):eE P w (upd H a o) h':=fun b u e=>by
 have hn:=x.fresh hp
 by_cases hb:b=a
 ·subst hb;rw [b8] at e;cases e;exact new
 ·rw [bD hb] at e
  exact (x b u e).stay (fun c v _ q=>k c v q) (fun c q=>by rw [bD (bJ q hn)];exact q) fun c xs q=>by rw [bD (bJ q hn)];exact q
end
def Rd (H:Hp) (a:Addr) (u:HO):Prop:=H a=some u\/∃ o,H a=some (.frz o u)
theorem Rd.ok {P:Program} {w:World} {H:Hp} {h:Heap} {a:Addr} {u:HO} (r:Rd H a u) (x:eE P w H h):dB P w H h a u:=by
 rcases r with r | ⟨o,r⟩
 ·exact x a u r
 ·obtain ⟨_,q⟩:=x a _ r
  exact q
def La:Option HO->Prop
 | some (.lst _)=>True
 | some (.dK _)=>True
 | some (.dT _)=>True
 | some (.dN _)=>True
 | some (.set _ _)=>True
 | some (.ins _ _ _)=>True
 | some (.ext _)=>True
 | _=>False
section
variable {P:Program} {w:World} {H:Hp} {h h':Heap} {x e:Addr} {o':HO}
theorem eE.write (ok:eE P w H h) (mu:La (H x)) (he:e=x\/H e=some (.own x)) (k:∀ b u,b≠e->h.get? b=some u->h'.get? b=some u) (heo:∃ u,h'.get? e=some u)
  (new:dB P w (upd H x o') h' x o'):eE P w (upd H x o') h':=fun b u q=>by
 have nown:∀ c y,H c=some (.own y)->c≠x:=fun c y r z=>by subst z;rw [r] at mu;exact mu
 have ntup:∀ c xs,H c=some (.tup xs)->c≠x:=fun c xs r z=>by subst z;rw [r] at mu;exact mu
 by_cases hb:b=x
 ·subst hb;rw [b8] at q;cases q;exact new
 ·rw [bD hb] at q
  by_cases hbe:b=e
  ·have q':H b=some (.own x):=by
    rcases he with z | z
    ·exact absurd (hbe.trans z) hb
    ·rw [hbe];exact z
   rw [q] at q';cases q'
   obtain ⟨v,hv⟩:=heo
   exact ⟨v,by rw [hbe];exact hv⟩
  ·refine (ok b u q).stay (fun c v hc r=>k c v ?_ r) (fun c r=>by rw [bD (nown c b r)];exact r) fun c xs r=>by rw [bD (ntup c xs r)];exact r
   rcases hc with rfl | hc
   ·exact hbe
   ·rintro rfl
    rcases he with z | z
    ·exact nown c b hc z
    ·rw [hc] at z;cases z;exact hb rfl
end
structure Un (fs ex:List Addr) (H H':Hp) (h h':Heap):Prop where
 keep:∀ b o,h.get? b=some o->H b=none->b ∉ fs->b ∉ ex->h'.get? b=some o
 slot:∀ b o,h.get? b=some o->H b=none->b∈fs->b ∉ ex->∃ sl,h'.get? b=some { o with slots:=sl }
 free:∀ b o,h.get? b=some o->H b=none->b ∉ ex->H' b=none
 there:∀ b o,h.get? b=some o->b ∉ ex->∃ o',h'.get? b=some o'
 tups:∀ b xs,H b=some (.tup xs)->H' b=some (.tup xs)
 frzs:∀ b o u,H b=some (.frz o u)->H' b=some (.frz o u)
 tbls:∀ b ps,H b=some (.tbl ps)->∃ more,H' b=some (.tbl (ps++more))
section
variable {fs fs' ex ex':List Addr} {H H1 H2:Hp} {h h1 h2 h':Heap} {a x e:Addr} {o:HO}
theorem Un.any (u:Un fs ex H H1 h h1) {b:Addr} {ob:Obj} (q:h.get? b=some ob) (n:H b=none) (hx:b ∉ ex):∃ sl,h1.get? b=some { ob with slots:=sl }:=by
 by_cases hb:b∈fs
 ·exact u.slot b ob q n hb hx
 ·exact ⟨ob.slots,u.keep b ob q n hb hx⟩
theorem Un.kept (k:∀ b u,h.get? b=some u->h'.get? b=some u):Un fs ex H H h h' :=
 ⟨fun b ob q _ _ _=>k b ob q,fun b ob q _ _ _=>⟨ob.slots,k b ob q⟩,fun _ _ _ n _=>n,fun b ob q _=>⟨ob,k b ob q⟩,fun _ _ q=>q,fun _ _ _ q=>q,fun _ ps q=>⟨#[],by rw [q];simp⟩⟩
theorem Un.refl:Un fs ex H H h h:=Un.kept fun _ _ q=>q
theorem Un.laid (k:∀ b u,h.get? b=some u->h'.get? b=some u) (hp:h.objs.size<=a) (hn:H a=none):Un fs ex H (upd H a o) h h' where
 keep:=fun b u q _ _ _=>k b u q
 slot:=fun b u q _ _ _=>⟨u.slots,k b u q⟩
 free:=fun b u q n _=>by rw [bD (Nat.ne_of_lt (Nat.lt_of_lt_of_le (Heap.lt_size q) hp))];exact n
 there:=fun b u q _=>⟨u,k b u q⟩
 tups:=fun b xs q=>by rw [bD (bJ q hn)];exact q
 frzs:=fun b u xs q=>by rw [bD (bJ q hn)];exact q
 tbls:=fun b ps q=>⟨#[],by rw [bD (bJ q hn),q];simp⟩
theorem Un.write (mu:La (H x)) (he:e=x\/H e=some (.own x)) (k:∀ b u,b≠e->h.get? b=some u->h'.get? b=some u) (heo:∃ u,h'.get? e=some u):Un fs ex H (upd H x o) h h':=by
 have hx:∀ b,H b=none->b≠x:=fun b n z=>by subst z;rw [n] at mu;exact mu
 have hb:∀ b,H b=none->b≠e:=fun b n z=>by
  subst z
  rcases he with r | r
  ·exact hx b n r
  ·rw [n] at r;cases r
 have hm:∀ b u,H b=some u->¬ La (some u)->b≠x:=fun b u q nm z=>by subst z;rw [q] at mu;exact nm mu
 refine ⟨fun b u q n _ _=>k b u (hb b n) q,fun b u q n _ _=>⟨u.slots,k b u (hb b n) q⟩,fun b u q n _=>by rw [bD (hx b n)];exact n,fun b u q _=>?_,
  fun b xs q=>by rw [bD (hm b _ q fun z=>z)];exact q,fun b u xs q=>by rw [bD (hm b _ q fun z=>z)];exact q,fun b ps q=>⟨#[],by rw [bD (hm b _ q fun z=>z),q];simp⟩⟩
 by_cases hbe:b=e
 ·subst hbe;exact heo
 ·exact ⟨u,k b u hbe q⟩
end
def Qk (h:Heap) (H:Hp):List Addr:=(List.range h.objs.size).filter fun a=>(H a).isSome
def qR (h:Heap) (H:Hp):Heap:=PySem.W.hideAll h (Qk h H)
theorem MF (h:Heap) (H:Hp):(qR h H).objs.size=h.objs.size:=PySem.W.hideAll_size _ _
theorem Pd {h:Heap} {H:Hp} {b:Addr} {o:Obj} (e:h.get? b=some o) (n:H b=none):(qR h H).get? b=some o :=
 PySem.W.hideAll_get _ e fun hm=>by
  have q:(H b).isSome=true:=(List.mem_filter.mp hm).2
  rw [n] at q;simp at q
theorem Ra {h:Heap} {H:Hp} {b:Addr} {o:Obj} (e:(qR h H).get? b=some o):h.get? b=some o/\H b=none:=by
 have e':h.get? b=some o:=PySem.W.of_hideAll (Qk h H) e
 refine ⟨e',?_⟩
 cases q:H b with
 | none=>rfl
 | some x =>
  have hm:b∈Qk h H:=List.mem_filter.mpr ⟨List.mem_range.mpr (Heap.lt_size e'),by simp [q]⟩
  have z:(qR h H).get? b=none:=PySem.W.hideAll_none (Qk h H) hm
  rw [z] at e;cases e
structure Mod (K:PySem.W.Frag) (mg:Str->Option Value) (base:Heap):Prop where
 kin:K.In base
 glob:base.Ns mainGlobals mg
 blt:∃ mb,base.Ns builtinsNs mb/\∀ x:Str,x≠"__name__"->mb x=bootBuiltins x
 nolimit:base.NoLimit
structure Cx where
 prog:Program
 w:World
 K:PySem.W.Frag
 mg:Str->Option Value
 base:Heap
 A:Around
 N:List Str
 s₀:Shared
 H₀:Hp
 env:Env
 outer:List Env
 stack:List Env
 ex:List Addr
 fn:Str->Bool
 calm:Bool
 pn:List (Addr × Obj)
 xe:Value->Shared->Prop
def lI (l:List Env):List Addr:=l.filterMap (·.frame)
abbrev Cx.fs (X:Cx):List Addr:=lI X.outer
def Gg (sc:Scope) (x:Str):Prop:=sc.names.lookup x=some .local\/sc.names.lookup x=some .cell\/sc.names.lookup x=some .free
def Loc (sc:Scope) (x:Str):Prop:=sc.names.lookup x=some .local\/sc.names.lookup x=some .cell
def Look (env:Env) (h:Heap) (m:Str->Option Value) (x:Str) (u:Value):Prop :=
 (env.kindOf x=some .local/\m x=some u)\/((env.kindOf x=some .cell\/env.kindOf x=some .free)/\∃ c,env.cells.lookup x=some c/\h.IsCell c (some u))
structure Cx.Ok (X:Cx):Prop where
 mod:Mod X.K X.mg X.base
 kind:X.env.scope.kind=.function
 glob:X.env.globals=mainGlobals
 blt:X.env.builtins=builtinsNs
 above:X.s₀.heap.objs.size<=X.env.locals
 inj:∀ x y c,X.env.cells.lookup x=some c->X.env.cells.lookup y=some c->x=y
 has:∀ x,(X.env.kindOf x=some .cell\/X.env.kindOf x=some .free)->∃ c,X.env.cells.lookup x=some c
 cab:∀ x c,X.fn x=true->X.env.cells.lookup x=some c->X.s₀.heap.objs.size<=c
 hd:X.calm=true->X.A.handled=none
 frames:X.A.frames=some X.stack
 stk:X.stack=X.outer\/(X.stack=X.env :: X.outer/\X.env.frame=some X.env.locals)
 exf:∀ b∈X.ex,b≠X.env.locals/\∀ x c,X.env.cells.lookup x=some c->c≠b
 bs:∀ b o,X.base.get? b=some o->X.s₀.heap.get? b=some o/\X.H₀ b=none
 bsz:X.base.objs.size<=X.s₀.heap.objs.size
 noex:∀ b o,X.base.get? b=some o->b ∉ X.ex
 exfs:∀ b∈X.ex,b ∉ X.fs
 funs:X.s₀.heap.FunFrames X.base X.outer
 frf:∀ b∈X.fs,X.H₀ b=none
structure Inv (X:Cx) (pins:List (Addr × Obj)) (σ:List (Option V)) (H:Hp) (s:Shared):Prop where
 ok:X.Ok
 os:s.os=X.s₀.os
 bare:AllBare s.gens
 base:Un X.fs X.ex X.H₀ H X.s₀.heap s.heap
 loc:∃ m,s.heap.Ns X.env.locals m/\∀ (i:Nat) (x:Str) (v:V),X.N[i]?=some x->σ[i]?=some (some v)->Gg X.env.scope x->∃ u,RelV v u/\Look X.env s.heap m x u
 cell:∀ x c,X.env.cells.lookup x=some c->∃ v,s.heap.IsCell c v
 free:H X.env.locals=none
 freeC:∀ x c,X.env.cells.lookup x=some c->H c=none
 pin:∀ p∈X.pn++pins,s.heap.get? p.1=some p.2/\H p.1=none/\p.1≠X.env.locals/\p.1 ∉ X.fs/\∀ v,p.2.data≠.cell v
 hok:eE X.prog X.w H s.heap
 len:σ.length=X.N.length
section
variable {X:Cx} {pins:List (Addr × Obj)} {σ:List (Option V)} {H H':Hp} {s:Shared} {h':Heap}
theorem Cx.Ok.nofr (ok:X.Ok) {b:Addr} {o:Obj} (e:X.base.get? b=some o):b ∉ X.fs:=fun hb=>by
 have:=(ok.funs.mem hb).1
 rw [e] at this;cases this
theorem Inv.bs (I:Inv X pins σ H s):∀ b o,X.base.get? b=some o->s.heap.get? b=some o/\H b=none:=fun b o e =>
 ⟨I.base.keep b o (I.ok.bs b o e).1 (I.ok.bs b o e).2 (I.ok.nofr e) (I.ok.noex b o e),I.base.free b o (I.ok.bs b o e).1 (I.ok.bs b o e).2 (I.ok.noex b o e)⟩
theorem Inv.bk (I:Inv X pins σ H s):∀ b o,X.base.get? b=some o->s.heap.get? b=some o:=fun b o e=>(I.bs b o e).1
theorem Inv.mod (I:Inv X pins σ H s):Mod X.K X.mg X.base:=I.ok.mod
theorem Inv.kIn (I:Inv X pins σ H s):X.K.In s.heap:=I.ok.mod.kin.keeps I.bk
theorem Inv.fr (I:Inv X pins σ H s):∃ m,Fr X.base X.env.locals s.heap m :=
 let ⟨m,hn,_⟩:=I.loc
 ⟨m,hn,I.bk,Nat.le_trans I.ok.bsz I.ok.above⟩
theorem Inv.lt (I:Inv X pins σ H s):X.env.locals < s.heap.objs.size:=let ⟨_,hn,_⟩:=I.loc;hn.lt
theorem Inv.sz (I:Inv X pins σ H s):X.s₀.heap.objs.size<=s.heap.objs.size:=Nat.le_trans I.ok.above (Nat.le_of_lt I.lt)
theorem Inv.nofs (I:Inv X pins σ H s) {a:Addr} (h:s.heap.objs.size<=a):a ∉ X.fs:=fun hb=>by
 obtain ⟨_,o,ho,_⟩:=I.ok.funs.mem hb
 exact absurd (Nat.lt_of_lt_of_le (Heap.lt_size ho) (Nat.le_trans I.sz h)) (Nat.lt_irrefl _)
theorem Inv.cne (I:Inv X pins σ H s):∀ x c,X.env.cells.lookup x=some c->c≠X.env.locals:=fun x c e z=>by
 obtain ⟨v,o,ho,hd⟩:=I.cell x c e
 obtain ⟨m,⟨o',es,ep,ho',hd',_⟩,_⟩:=I.loc
 rw [z,ho'] at ho;cases ho;rw [hd'] at hd;cases hd
theorem Inv.funs (I:Inv X pins σ H s):s.heap.FunFrames X.base X.outer:=by
 have all:∀ (l:List Env),(∀ b∈lI l,b∈X.fs)->X.s₀.heap.FunFrames X.base l->s.heap.FunFrames X.base l:=by
  intro l
  induction l with
  | nil=>intro _ _;trivial
  | cons env r ih =>
   intro hs hl
   obtain ⟨hk,⟨L,o,hf,hn,ho,hd⟩,hr⟩:=hl
   have hL:L∈X.fs:=hs L (by unfold lI;rw [List.filterMap_cons,hf];exact List.mem_cons_self)
   obtain ⟨sl,e⟩:=I.base.slot L o ho (I.ok.frf L hL) hL fun z=>I.ok.exfs L z hL
   exact ⟨hk,⟨L,_,hf,hn,e,hd⟩,ih (fun b hb=>hs b (by unfold lI;rw [List.filterMap_cons,hf];exact List.mem_cons_of_mem _ hb)) hr⟩
 exact all X.outer (fun _ hb=>hb) I.ok.funs
theorem Inv.stack (I:Inv X pins σ H s):s.heap.FunFrames X.base X.stack:=by
 rcases I.ok.stk with e | ⟨e,hf⟩
 ·rw [e];exact I.funs
 ·rw [e]
  obtain ⟨m,hn,_⟩:=I.loc
  refine .cons (by rw [I.ok.kind];decide) hf hn ?_ I.funs
  exact Heap.get?_none_of_le (Nat.le_trans I.ok.bsz I.ok.above)
theorem Inv.stkSub (I:Inv X pins σ H s):∀ b∈lI X.stack,b∈X.env.locals :: X.fs:=fun b hb=>by
 rcases I.ok.stk with e | ⟨e,hf⟩
 ·rw [e] at hb;exact List.mem_cons_of_mem _ hb
 ·rw [e] at hb
  unfold lI at hb
  rw [List.filterMap_cons,hf] at hb
  exact hb
theorem Inv.stkFree (I:Inv X pins σ H s):∀ b∈lI X.stack,H b=none:=fun b hb=>by
 rcases List.mem_cons.mp (I.stkSub b hb) with e | hb
 ·rw [e];exact I.free
 ·obtain ⟨_,o,ho,_⟩:=I.ok.funs.mem hb
  exact I.base.free b o ho (I.ok.frf b hb) fun z=>I.ok.exfs b z hb
theorem Inv.step {g':Array GenState} {t':Nat} {d':Drawn} {ch:List Addr} (I:Inv X pins σ H s)
  (hch:∀ b∈ch,(b∈X.ex\/X.s₀.heap.objs.size<=b)/\b≠X.env.locals/\(∀ x c,X.env.cells.lookup x=some c->c≠b)/\∀ p∈X.pn++pins,p.1≠b)
  (keep:∀ b o,b≠X.env.locals->b ∉ X.fs->b ∉ ch->s.heap.get? b=some o->H b=none->h'.get? b=some o)
  (slot:∀ b o,b≠X.env.locals->b∈X.fs->b ∉ ch->s.heap.get? b=some o->H b=none->∃ sl,h'.get? b=some { o with slots:=sl }) (free:∀ b o,b ∉ ch->s.heap.get? b=some o->H b=none->H' b=none)
  (there:∀ b o,b ∉ ch->s.heap.get? b=some o->∃ o',h'.get? b=some o')
  (tups:∀ b xs,H b=some (.tup xs)->H' b=some (.tup xs)) (frzs:∀ b o u,H b=some (.frz o u)->H' b=some (.frz o u)) (tbls:∀ b ps,H b=some (.tbl ps)->∃ more,H' b=some (.tbl (ps++more)))
  (ns:∀ m,s.heap.Ns X.env.locals m->h'.Ns X.env.locals m) (hok:eE X.prog X.w H' h') (hg:AllBare g') :
  Inv X pins σ H' { s with heap:=h',gens:=g',drawn:=d',toks:=t' }:=by
 have neL:∀ b o,X.s₀.heap.get? b=some o->b≠X.env.locals:=fun b o e=>Nat.ne_of_lt (Nat.lt_of_lt_of_le (Heap.lt_size e) I.ok.above)
 have neC:∀ b o,X.s₀.heap.get? b=some o->b ∉ X.ex->b ∉ ch:=fun b o e hx hb=>by
  rcases (hch b hb).1 with z | z
  ·exact hx z
  ·exact absurd (Nat.lt_of_lt_of_le (Heap.lt_size e) z) (Nat.lt_irrefl _)
 have cellK:∀ x c,X.env.cells.lookup x=some c->∀ v,s.heap.IsCell c v->h'.IsCell c v:=fun x c e v ⟨o,ho,hd⟩=>by
  have nch:c ∉ ch:=fun z=>(hch c z).2.2.1 x c e rfl
  by_cases hc:c∈X.fs
  ·obtain ⟨sl,q⟩:=slot c o (I.cne x c e) hc nch ho (I.freeC x c e)
   exact ⟨_,q,hd⟩
  ·exact ⟨o,keep c o (I.cne x c e) hc nch ho (I.freeC x c e),hd⟩
 refine ⟨I.ok,I.os,hg,⟨fun b o e n hb hx=>?_,fun b o e n hb hx=>?_,fun b o e n hx=>?_,fun b o e hx=>?_,fun b xs e=>tups b xs (I.base.tups b xs e),fun b o xs e=>frzs b o xs (I.base.frzs b o xs e),fun b ps e=>?_⟩,?_,fun x c e=>?_,?_,fun x c e=>?_,fun p hp=>?_,hok,I.len⟩
 ·exact keep b o (neL b o e) hb (neC b o e hx) (I.base.keep b o e n hb hx) (I.base.free b o e n hx)
 ·obtain ⟨sl,e1⟩:=I.base.slot b o e n hb hx
  obtain ⟨sl',e2⟩:=slot b _ (neL b o e) hb (neC b o e hx) e1 (I.base.free b o e n hx)
  exact ⟨sl',e2⟩
 ·obtain ⟨o',e1⟩:=I.base.there b o e hx
  exact free b o' (neC b o e hx) e1 (I.base.free b o e n hx)
 ·obtain ⟨o',e1⟩:=I.base.there b o e hx
  exact there b o' (neC b o e hx) e1
 ·obtain ⟨m1,e1⟩:=I.base.tbls b ps e
  obtain ⟨m2,e2⟩:=tbls b _ e1
  exact ⟨m1++m2,by rw [e2,Array.append_assoc]⟩
 ·obtain ⟨m,hn,hl⟩:=I.loc
  refine ⟨m,ns m hn,fun i x v e1 e2 e3=>?_⟩
  obtain ⟨u,r,l⟩:=hl i x v e1 e2 e3
  refine ⟨u,r,?_⟩
  rcases l with l | ⟨k,c,e,z⟩
  ·exact .inl l
  ·exact .inr ⟨k,c,e,cellK x c e _ z⟩
 ·obtain ⟨v,z⟩:=I.cell x c e
  exact ⟨v,cellK x c e v z⟩
 ·obtain ⟨m,⟨o,_,_,ho,_⟩,_⟩:=I.loc
  exact free _ o (fun z=>(hch _ z).2.1 rfl) ho I.free
 ·obtain ⟨v,o,ho,hd⟩:=I.cell x c e
  exact free c o (fun z=>(hch c z).2.2.1 x c e rfl) ho (I.freeC x c e)
 ·obtain ⟨e,n,ne,nf,d⟩:=I.pin p hp
  have nch:p.1 ∉ ch:=fun z=>(hch p.1 z).2.2.2 p hp rfl
  exact ⟨keep p.1 p.2 ne nf nch e n,free p.1 p.2 nch e n,ne,nf,d⟩
theorem Inv.un {t':Nat} (I:Inv X pins σ H s) (u:Un X.fs [] H H' s.heap h') (hok:eE X.prog X.w H' h'):Inv X pins σ H' { s with heap:=h',toks:=t' }:=by
 obtain ⟨m,⟨o,es,ep,ho,r⟩,_⟩:=id I.loc
 obtain ⟨sl,hL⟩:=u.any ho I.free (by simp)
 exact I.step (g':=s.gens) (d':=s.drawn) (ch:=[]) (fun _ z=>nomatch z) (fun b o _ hb _ e n=>u.keep b o e n hb (by simp)) (fun b o _ hb _ e n=>u.slot b o e n hb (by simp)) (fun b o _ e n=>u.free b o e n (by simp)) (fun b o _ e=>u.there b o e (by simp)) u.tups u.frzs u.tbls (fun m' hm=>by
  obtain ⟨o',es',ep',ho',r'⟩:=hm
  rw [ho] at ho';cases ho'
  exact ⟨_,es',ep',hL,r'⟩) hok I.bare
theorem Inv.call {g':Array GenState} {t':Nat} {d':Drawn} {ch:List Addr} (I:Inv X pins σ H s) (u:Un (lI X.stack) ch H H' s.heap h') (hok:eE X.prog X.w H' h') (hg:AllBare g')
  (hch:∀ b∈ch,(b∈X.ex\/X.s₀.heap.objs.size<=b)/\b≠X.env.locals/\(∀ x c,X.env.cells.lookup x=some c->c≠b)/\∀ p∈X.pn++pins,p.1≠b) :
  Inv X pins σ H' { s with heap:=h',gens:=g',drawn:=d',toks:=t' }:=by
 obtain ⟨m,⟨o,es,ep,ho,r⟩,_⟩:=id I.loc
 obtain ⟨sl,hL⟩:=u.any ho I.free fun z=>(hch _ z).2.1 rfl
 exact I.step (ch:=ch) hch (fun b o hL hb hc e n=>u.keep b o e n (fun z=>(List.mem_cons.mp (I.stkSub b z)).elim hL hb) hc) (fun b o _ _ hc e n=>u.any e n hc) (fun b o hc e n=>u.free b o e n hc) (fun b o hc e=>u.there b o e hc) u.tups u.frzs u.tbls (fun m' hm=>by
  obtain ⟨o',es',ep',ho',r'⟩:=hm
  rw [ho] at ho';cases ho'
  exact ⟨_,es',ep',hL,r'⟩) hok hg
theorem Inv.turned {t':Nat} {it:Addr} (I:Inv X pins σ H s) (k:∀ b o,b≠it->s.heap.get? b=some o->h'.get? b=some o) (hn:H it=none) (hL:it≠X.env.locals)
  (h1:it∈X.ex\/X.s₀.heap.objs.size<=it) (h2:∀ x c,X.env.cells.lookup x=some c->c≠it) (h3:∀ p∈X.pn++pins,p.1≠it):Inv X pins σ H { s with heap:=h',toks:=t' }:=by
 have nit:∀ b u,H b=some u->b≠it:=fun b u e z=>by rw [z,hn] at e;cases e
 refine I.step (g':=s.gens) (d':=s.drawn) (ch:=[it]) (fun b hb=>?_) (fun b o _ _ hc e _=>k b o (fun z=>hc (by simp [z])) e) (fun b o _ _ hc e _=>⟨o.slots,k b o (fun z=>hc (by simp [z])) e⟩) (fun _ _ _ _ n=>n)
  (fun b o hc e=>⟨o,k b o (fun z=>hc (by simp [z])) e⟩) (fun _ _ e=>e) (fun _ _ _ e=>e) (fun b ps e=>⟨#[],by rw [e];simp⟩) (fun m hm=>?_) (fun b u e=>?_) I.bare
 ·have e:b=it:=by simpa using hb
  subst e
  exact ⟨h1,hL,h2,h3⟩
 ·obtain ⟨o,es,ep,ho,r⟩:=hm
  exact ⟨o,es,ep,k _ o (Ne.symm hL) ho,r⟩
 ·refine (I.hok b u e).stay (fun c v hc q=>k c v ?_ q) (fun _ q=>q) fun _ _ q=>q
  rcases hc with z | z
  ·rw [z];exact nit b u e
  ·exact nit c _ z
theorem Inv.tok (I:Inv X pins σ H s) (t:Nat):Inv X pins σ H { s with toks:=t }:=I.un (h':=s.heap) (t':=t) Un.refl I.hok
theorem Inv.kept {t':Nat} (I:Inv X pins σ H s) (k:∀ b u,s.heap.get? b=some u->h'.get? b=some u):Inv X pins σ H { s with heap:=h',toks:=t' }:=I.un (Un.kept k) (I.hok.kept k)
theorem Inv.laid {a:Addr} {o:HO} {t':Nat} (I:Inv X pins σ H s) (k:∀ b u,s.heap.get? b=some u->h'.get? b=some u) (hp:s.heap.objs.size<=a) (new:dB X.prog X.w (upd H a o) h' a o) :
  Inv X pins σ (upd H a o) { s with heap:=h',toks:=t' }:=I.un (Un.laid k hp (I.hok.fresh hp)) (I.hok.laid k hp new)
theorem Inv.write {x e:Addr} {o:HO} {t':Nat} (I:Inv X pins σ H s) (mu:La (H x)) (he:e=x\/H e=some (.own x)) (k:∀ b u,b≠e->s.heap.get? b=some u->h'.get? b=some u) (heo:∃ u,h'.get? e=some u)
  (new:dB X.prog X.w (upd H x o) h' x o):Inv X pins σ (upd H x o) { s with heap:=h',toks:=t' }:=I.un (Un.write mu he k heo) (I.hok.write mu he k heo new)
theorem Inv.weak {σ':List (Option V)} (I:Inv X pins σ H s) (hl:σ'.length=σ.length) (w:∀ (i:Nat) v,σ'[i]?=some (some v)->σ[i]?=some (some v)):Inv X pins σ' H s :=
 ⟨I.ok,I.os,I.bare,I.base,let ⟨m,hn,hl'⟩:=I.loc;⟨m,hn,fun i x v e1 e2 e3=>hl' i x v e1 (w i v e2) e3⟩,I.cell,I.free,I.freeC,I.pin,I.hok,hl.trans I.len⟩
theorem Inv.pins_of {pins':List (Addr × Obj)} (I:Inv X pins σ H s) (h:∀ p∈pins',s.heap.get? p.1=some p.2/\H p.1=none/\p.1≠X.env.locals/\p.1 ∉ X.fs/\∀ v,p.2.data≠.cell v):Inv X pins' σ H s :=
 ⟨I.ok,I.os,I.bare,I.base,I.loc,I.cell,I.free,I.freeC,fun p hp=>(List.mem_append.mp hp).elim (fun z=>I.pin p (List.mem_append_left _ z)) (h p),I.hok,I.len⟩
theorem vV {N:List Str} (hN:N.Nodup) {i j:Nat} {x:Str} (a:N[i]?=some x) (b:N[j]?=some x):i=j:=by
 obtain ⟨h1,e1⟩:=List.getElem?_eq_some_iff.mp a
 obtain ⟨h2,e2⟩:=List.getElem?_eq_some_iff.mp b
 exact (List.getElem_inj hN).mp (e1.trans e2.symm)
theorem zP {M:Model} {A:Around} {E:Value->Shared->Prop} {i:Nat} {x:Str} {v:V} {u:Value} {Q:Unit->Shared->Prop} (I:Inv X pins σ H s) (hN:X.N.Nodup) (hi:X.N[i]?=some x) (hx:Loc X.env.scope x) (r:RelV v u)
  (h:∀ s',Inv X pins (σ.set i (some v)) H s'->(∃ a,Heap.SameBut a s.heap s'.heap/\(a=X.env.locals\/X.env.cells.lookup x=some a))->Q () s') (hf:X.fn x=true\/X.env.scope.names.lookup x=some .local:=by first | exact .inl rfl | exact .inr rfl | assumption):wpAny M A (storeName X.env x u) Q E s:=by
 obtain ⟨m,hn,hl⟩:=id I.loc
 have hcls:(X.env.scope.kind == .class || (X.env.scope.kind == .module && X.env.locals != X.env.globals))=false:=by rw [I.ok.kind];rfl
 have hiσ:i < σ.length:=by rw [I.len];exact (List.getElem?_eq_some_iff.mp hi).1
 have cne:=I.cne
 have tracked:∀ {a:Addr} {h':Heap},(∃ o,s.heap.get? a=some o/\H a=none)->Heap.SameBut a s.heap h'->eE X.prog X.w H h':=fun {a h'} ha hs b ob e=>by
  obtain ⟨_,_,hfree⟩:=ha
  refine (I.hok b ob e).stay (fun c w' hc q=>(hs.2 c ?_).trans q) (fun _ q=>q) fun _ _ q=>q
  rintro rfl
  rcases hc with rfl | hc
  ·rw [hfree] at e;cases e
  ·rw [hfree] at hc;cases hc
 rcases hx with hk | hk
 ·refine wpAny_storeName_local hk hn (fun h' hn' hs=>?_) hcls
  obtain ⟨oL,_,_,hoL,_⟩:=id hn
  refine h _ ⟨I.ok,I.os,I.bare,⟨fun b o e n hb hx=>?_,fun b o e n hb hx=>?_,I.base.free,fun b o e hx=>?_,I.base.tups,I.base.frzs,I.base.tbls⟩,⟨_,hn',fun j y v' e1 e2 e3=>?_⟩,fun y c e=>?_,I.free,I.freeC,fun p hp=>?_,tracked ⟨oL,hoL,I.free⟩ hs,by simpa using I.len⟩ ⟨_,hs,.inl rfl⟩
  ·exact (hs.2 b (Nat.ne_of_lt (Nat.lt_of_lt_of_le (Heap.lt_size e) I.ok.above))).trans (I.base.keep b o e n hb hx)
  ·obtain ⟨sl,e1⟩:=I.base.slot b o e n hb hx
   exact ⟨sl,(hs.2 b (Nat.ne_of_lt (Nat.lt_of_lt_of_le (Heap.lt_size e) I.ok.above))).trans e1⟩
  ·obtain ⟨o',e1⟩:=I.base.there b o e hx
   exact ⟨o',(hs.2 b (Nat.ne_of_lt (Nat.lt_of_lt_of_le (Heap.lt_size e) I.ok.above))).trans e1⟩
  ·by_cases hj:j=i
   ·subst hj
    rw [hi] at e1;cases e1
    rw [List.getElem?_set_self hiσ] at e2
    cases e2
    exact ⟨u,r,.inl ⟨hk,by simp⟩⟩
   ·rw [List.getElem?_set_ne (Ne.symm hj)] at e2
    obtain ⟨u',r',q⟩:=hl j y v' e1 e2 e3
    refine ⟨u',r',?_⟩
    rcases q with ⟨k,e⟩ | ⟨k,c,e,z⟩
    ·refine .inl ⟨k,?_⟩
     have:y≠x:=fun e=>hj (vV hN e1 (e ▸ hi))
     simp [this,e]
    ·exact .inr ⟨k,c,e,z.sameBut hs (cne y c e)⟩
  ·obtain ⟨w',z⟩:=I.cell y c e
   exact ⟨w',z.sameBut hs (cne y c e)⟩
  ·obtain ⟨e,n,ne,nf,d⟩:=I.pin p hp
   exact ⟨(hs.2 p.1 ne).trans e,n,ne,nf,d⟩
 ·have hfn:X.fn x=true:=by
   rcases hf with z | z
   ·exact z
   ·rw [z] at hk;cases hk
  obtain ⟨c,hc⟩:=I.ok.has x (.inl hk)
  obtain ⟨w',z⟩:=I.cell x c hc
  refine wpAny_storeName_cell I.ok.kind hk hc z (fun h' hc' hs=>?_)
  obtain ⟨oc,hoc,hocd⟩:=id z
  refine h { s with heap:=h' } ⟨I.ok,I.os,I.bare,⟨fun b o e n hb hx=>?_,fun b o e n hb hx=>?_,I.base.free,fun b o e hx=>?_,I.base.tups,I.base.frzs,I.base.tbls⟩,⟨m,hn.sameBut hs (Ne.symm (cne x c hc)),fun j y v' e1 e2 e3=>?_⟩,fun y c' e=>?_,I.free,I.freeC,fun p hp=>?_,tracked ⟨oc,hoc,I.freeC x c hc⟩ hs,by simpa using I.len⟩ ⟨c,hs,.inr hc⟩
  ·exact (hs.2 b (Nat.ne_of_lt (Nat.lt_of_lt_of_le (Heap.lt_size e) (I.ok.cab x c hfn hc)))).trans (I.base.keep b o e n hb hx)
  ·obtain ⟨sl,e1⟩:=I.base.slot b o e n hb hx
   exact ⟨sl,(hs.2 b (Nat.ne_of_lt (Nat.lt_of_lt_of_le (Heap.lt_size e) (I.ok.cab x c hfn hc)))).trans e1⟩
  ·obtain ⟨o',e1⟩:=I.base.there b o e hx
   exact ⟨o',(hs.2 b (Nat.ne_of_lt (Nat.lt_of_lt_of_le (Heap.lt_size e) (I.ok.cab x c hfn hc)))).trans e1⟩
  ·by_cases hj:j=i
   ·subst hj
    rw [hi] at e1;cases e1
    rw [List.getElem?_set_self hiσ] at e2
    cases e2
    exact ⟨u,r,.inr ⟨.inl hk,c,hc,hc'⟩⟩
   ·rw [List.getElem?_set_ne (Ne.symm hj)] at e2
    obtain ⟨u',r',q⟩:=hl j y v' e1 e2 e3
    refine ⟨u',r',?_⟩
    rcases q with q | ⟨k,c',e,z'⟩
    ·exact .inl q
    ·refine .inr ⟨k,c',e,z'.sameBut hs ?_⟩
     rintro rfl
     exact hj (vV hN e1 (I.ok.inj _ _ _ e hc ▸ hi))
  ·by_cases hcc:c'=c
   ·subst hcc;exact ⟨_,hc'⟩
   ·obtain ⟨w2,z2⟩:=I.cell y c' e
    exact ⟨w2,z2.sameBut hs hcc⟩
  ·obtain ⟨e,n,ne,nf,d⟩:=I.pin p hp
   refine ⟨(hs.2 p.1 ?_).trans e,n,ne,nf,d⟩
   intro q
   rw [q,hoc] at e
   have q':oc=p.2:=Option.some.inj e
   exact d w' (by rw [<- q'];exact hocd)
theorem qJ {M:Model} {A:Around} {E:Value->Shared->Prop} {i:Nat} {x:Str} {v:V} {u:Value} {Q:Unit->Shared->Prop} (I:Inv X pins σ H s) (hN:X.N.Nodup) (hi:X.N[i]?=some x) (hx:Loc X.env.scope x) (r:RelV v u)
  (h:∀ s',Inv X pins (σ.set i (some v)) H s'->Q () s') (hf:X.fn x=true\/X.env.scope.names.lookup x=some .local:=by first | exact .inl rfl | exact .inr rfl | assumption):wpAny M A (storeName X.env x u) Q E s :=
 zP I hN hi hx r (fun s' I' _=>h s' I') hf
theorem Inv.call' {s':Shared} {ch:List Addr} (I:Inv X pins σ H s) (ho:s'.os=s.os) (u:Un (lI X.stack) ch H H' s.heap s'.heap) (hok:eE X.prog X.w H' s'.heap) (hg:AllBare s'.gens)
  (hch:∀ b∈ch,(b∈X.ex\/X.s₀.heap.objs.size<=b)/\b≠X.env.locals/\(∀ x c,X.env.cells.lookup x=some c->c≠b)/\∀ p∈X.pn++pins,p.1≠b):Inv X pins σ H' s':=by
 obtain ⟨h',g',d',t',o'⟩:=s'
 have e:o'=s.os:=ho
 subst e
 exact I.call (g':=g') (t':=t') (d':=d') u hok hg hch
end
abbrev XK:=Value->Option Addr->Hp->Prop
abbrev St:=List (Option V)
abbrev VK:=V->Hp->Prop
abbrev TE:=St->Hp->VK->Prop
abbrev TT:=St->Hp->(Bool->Hp->Prop)->Prop
abbrev TA:=St->Hp->(List V->Hp->Prop)->Prop
structure Ends where
 nx:St->Hp->Prop
 rt:VK
 bk:St->Hp->Prop:=fun _ _=>False
 ct:St->Hp->Prop:=fun _ _=>False
abbrev TS:=Ends->St->Hp->Prop
def EP (X:Cx) (pins:List (Addr × Obj)) (σ:St) (Q:VK) (u:Value) (s':Shared):Prop:=∃ v H',Inv X pins σ H' s'/\RelV v u/\Q v H'
def TP (X:Cx) (pins:List (Addr × Obj)) (σ:St) (Q:Bool->Hp->Prop) (b:Bool) (s':Shared):Prop:=∃ H',Inv X pins σ H' s'/\Q b H'
def AP (X:Cx) (pins:List (Addr × Obj)) (σ:St) (Q:List V->Hp->Prop) (us:List Value) (s':Shared):Prop:=∃ vs H',Inv X pins σ H' s'/\Vals vs us/\Q vs H'
def SP (X:Cx) (pins:List (Addr × Obj)) (D:Ends) (f:Flow) (s':Shared):Prop :=
 match f with
 | .next=>∃ σ' H',Inv X pins σ' H' s'/\D.nx σ' H'
 | .brk=>∃ σ' H',Inv X pins σ' H' s'/\D.bk σ' H'
 | .cont=>∃ σ' H',Inv X pins σ' H' s'/\D.ct σ' H'
 | .ret u=>∃ v σ' H',Inv X pins σ' H' s'/\RelV v u/\D.rt v H'
def PE (X:Cx) (e:Expr) (t:TE):Prop :=
 ∀ (pins:List (Addr × Obj)) (s:Shared) (σ:St) (H:Hp) (Q:VK),Inv X pins σ H s->t σ H Q->wpAny (model X.prog X.w) X.A (eval e X.env) (EP X pins σ Q) X.xe s
def PT (X:Cx) (e:Expr) (t:TT):Prop :=
 ∀ (pins:List (Addr × Obj)) (s:Shared) (σ:St) (H:Hp) (Q:Bool->Hp->Prop),Inv X pins σ H s->t σ H Q->wpAny (model X.prog X.w) X.A (isTrue e X.env (eval e X.env)) (TP X pins σ Q) X.xe s
def PW (X:Cx) (e:Expr) (t:TT):Prop :=
 ∀ (whole:Sem Value) (pins:List (Addr × Obj)) (s:Shared) (σ:St) (H:Hp) (Q:Bool->Hp->Prop),Inv X pins σ H s->t σ H Q->wpAny (model X.prog X.w) X.A (isTrue e X.env whole) (TP X pins σ Q) X.xe s
theorem PW.pt {X:Cx} {e:Expr} {t:TT} (h:PW X e t):PT X e t:=h _
def PA (X:Cx) (es:List Expr) (t:TA):Prop :=
 ∀ (pos:Pos) (pins:List (Addr × Obj)) (s:Shared) (σ:St) (H:Hp) (Q:List V->Hp->Prop),Inv X pins σ H s->t σ H Q->wpAny (model X.prog X.w) X.A (spliced (backTo pos (starEach es X.env))) (AP X pins σ Q) X.xe s
def PS (X:Cx) (st:Stmt) (t:TS):Prop :=
 ∀ (pins:List (Addr × Obj)) (s:Shared) (σ:St) (H:Hp) (D:Ends),Inv X pins σ H s->t D σ H->wpAny (model X.prog X.w) X.A (exec st X.env) (SP X pins D) X.xe s
def mL (X:Cx) (st:List Stmt) (t:TS):Prop :=
 ∀ (pins:List (Addr × Obj)) (s:Shared) (σ:St) (H:Hp) (D:Ends),Inv X pins σ H s->t D σ H->wpAny (model X.prog X.w) X.A (execs st X.env) (SP X pins D) X.xe s
theorem bP {α:Type} {t:Sem α} {Q Q':α->Shared->Prop} {M:Model} {A:Around} {E:Value->Shared->Prop} {s:Shared} (h:wpAny M A t Q E s) (hQ:∀ a s,Q a s->Q' a s):wpAny M A t Q' E s:=wpAny_mono h hQ fun _ _ x=>x
section
variable {X:Cx}
theorem bin {a b:Expr} {ta tb:TE} (ha:PE X a ta) (hb:PE X b tb) {pins:List (Addr × Obj)} {s:Shared} {σ:St} {H:Hp} {R:V->V->Hp->Prop} (I:Inv X pins σ H s) (h:ta σ H fun x H1=>tb σ H1 fun y H2=>R x y H2)
  {α:Type} {Q:α->Shared->Prop} {f:Value->Value->Sem α}
  (hf:∀ v u s2 x y H2,Inv X pins σ H2 s2->RelV x v->RelV y u->R x y H2->wpAny (model X.prog X.w) X.A (f v u) Q X.xe s2) :
  wpAny (model X.prog X.w) X.A (eval a X.env) (fun v s₁=>wpAny (model X.prog X.w) X.A (eval b X.env) (fun u s₂=>wpAny (model X.prog X.w) X.A (f v u) Q X.xe s₂) X.xe s₁) X.xe s:=by
 refine bP (ha pins s σ H _ I h) fun v s1 ⟨x,H1,I1,r1,q1⟩=>?_
 refine bP (hb pins s1 σ H1 _ I1 q1) fun u s2 ⟨y,H2,I2,r2,q2⟩=>?_
 exact hf v u s2 x y H2 I2 r1 r2 q2
def vM (i:Nat):TE:=fun σ H Q=>∃ v,σ[i]?=some (some v)/\Q v H
def tC (v:V):TE:=fun _ H Q=>Q v H
theorem nK {i:Nat} {x:Str} {pos:Pos} (hN:X.N[i]?=some x) (hv:Gg X.env.scope x) (hd:(x == ("__debug__":Str))=false:=by decide) (hcd:(x == ("__classdict__":Str))=false:=by decide):PE X (.Name x pos) (vM i):=by
 intro pins s σ H Q I h
 obtain ⟨v,e,h⟩:=h
 obtain ⟨m,hn,hl⟩:=I.loc
 obtain ⟨u,r,l⟩:=hl i x v hN e hv
 have fin:EP X pins σ Q u s:=⟨v,H,I,r,h⟩
 rcases l with ⟨hk,hm⟩ | ⟨hk,c,hc,hcell⟩
 ·exact wpAny_Name (wpAny_loadName_local I.ok.kind hk hn hm fin) hd
 ·rcases hk with hk | hk
  ·exact wpAny_Name (wpAny_loadName_cell I.ok.kind hk hc hcell fin) hd
  ·exact wpAny_Name (wpAny_loadName_free I.ok.kind hk hc hcell fin hcd) hd
theorem SJ {i j pos}:PE X (.Constant (.int i) j pos) (tC (.int i)):=fun _ _ _ H _ I h=>wpAny_Constant_int ⟨.int i,H,I.tok _,⟨_,rfl⟩,h⟩
theorem VR {b j pos}:PE X (.Constant (.bool b) j pos) (tC (.bl b)):=fun _ _ _ H _ I h=>Constant_bool ⟨.bl b,H,I,rfl,h⟩
theorem Uu {j pos}:PE X (.Constant .none j pos) (tC .non):=fun _ _ _ H _ I h=>Constant_none ⟨.non,H,I,rfl,h⟩
theorem SY {x j pos}:PE X (.Constant (.str x) j pos) (tC (.str x)):=fun _ _ _ H _ I h=>Calls.Constant_str ⟨.str x,H,I.tok _,⟨_,rfl⟩,h⟩
def Gl (X:Cx) (x:Str):Prop:=X.env.kindOf x=some .globalImplicit
theorem nG {E:Value->Shared->Prop} {pins:List (Addr × Obj)} {s:Shared} {σ:St} {H:Hp} {x:Str} {u:Value} {pos:Pos} {Q:Value->Shared->Prop} (I:Inv X pins σ H s) (hg:Gl X x) (hm:X.mg x=some u) (h:Q u s)
  (hd:(x == ("__debug__":Str))=false:=by decide):wpAny (model X.prog X.w) X.A (eval (.Name x pos) X.env) Q E s :=
 Calls.Name_function_global I.ok.kind hg (Calls.loadGlobal_global (by rw [I.ok.glob];exact I.mod.glob.keeps I.bk) hm h) hd
theorem lH {E:Value->Shared->Prop} {pins:List (Addr × Obj)} {s:Shared} {σ:St} {H:Hp} {x:Str} {u:Value} {pos:Pos} {Q:Value->Shared->Prop} (I:Inv X pins σ H s) (hg:Gl X x) (hm:X.mg x=none) (hv:bootBuiltins x=some u) (h:Q u s)
  (hn:x≠"__name__":=by decide) (hd:(x == ("__debug__":Str))=false:=by decide):wpAny (model X.prog X.w) X.A (eval (.Name x pos) X.env) Q E s:=by
 obtain ⟨mb,h1,h2⟩:=I.mod.blt
 exact Calls.Name_function_global I.ok.kind hg (Calls.loadGlobal_builtin (by rw [I.ok.glob];exact I.mod.glob.keeps I.bk) hm (by rw [I.ok.blt];exact h1.keeps I.bk) ((h2 x hn).trans hv) h) hd
theorem tQ {x:Str} {v:V} {u:Value} {pos:Pos} (hg:Gl X x) (hm:X.mg x=some u) (r:RelV v u) (hd:(x == ("__debug__":Str))=false:=by decide):PE X (.Name x pos) (tC v) :=
 fun _ _ _ H _ I h=>nG I hg hm ⟨v,H,I,r,h⟩ hd
theorem F8 {x:Str} {v:V} {u:Value} {pos:Pos} (hg:Gl X x) (hm:X.mg x=none) (hv:bootBuiltins x=some u) (r:RelV v u) (hn:x≠"__name__":=by decide) (hd:(x == ("__debug__":Str))=false:=by decide):PE X (.Name x pos) (tC v) :=
 fun _ _ _ H _ I h=>lH I hg hm hv ⟨v,H,I,r,h⟩ hn hd
def W3 (ta tb:TE) (k:Int->Int->Hp->Prop):St->Hp->Prop:=fun σ H=>ta σ H fun x H1=>tb σ H1 fun y H2=>∃ i j,x=.int i/\y=.int j/\k i j H2
variable {a b:Expr} {ta tb:TE} {pos:Pos}
def zF (p:Int->Int->Bool) (ta tb:TE):TE:=fun σ H Q=>W3 ta tb (fun i j H2=>Q (.bl (p i j)) H2) σ H
abbrev Xl:TE->TE->TE:=zF fun i j=>decide (i < j)
abbrev Xj:TE->TE->TE:=zF fun i j=>decide (i<=j)
abbrev Xg:TE->TE->TE:=zF fun i j=>decide (j < i)
abbrev Xi:TE->TE->TE:=zF fun i j=>decide (j<=i)
abbrev Xb:TE->TE->TE:=zF fun i j=>decide (i=j)
abbrev Xa:TE->TE->TE:=zF fun i j=>!decide (i=j)
variable {tA tB':TT} {rest:List Expr}
def Vk (t u:TT):TT:=fun σ H Q=>t σ H fun c H1=>if c=true then u σ H1 Q else Q false H1
def Wi (t u:TT):TT:=fun σ H Q=>t σ H fun c H1=>if c=true then Q true H1 else u σ H1 Q
def Uh (t:TT):TT:=fun σ H Q=>t σ H fun c H1=>Q (!c) H1
theorem Sh (ha:PT X a tA):PW X (.BoolOp .And [a] pos) tA:=by
 intro wh pins s σ H Q I h
 refine isTrue_and (bP (ha pins s σ H Q I h) fun c s1 e=>?_)
 cases c with
 | true=>exact isTrue_and_nil e
 | false=>exact e
theorem TV (ha:PT X a tA):PW X (.BoolOp .Or [a] pos) tA:=by
 intro wh pins s σ H Q I h
 refine isTrue_or (bP (ha pins s σ H Q I h) fun c s1 e=>?_)
 cases c with
 | false=>exact isTrue_or_nil e
 | true=>exact e
theorem Vf (ha:PT X a tA) (hb:PW X (.BoolOp .And (b :: rest) pos) tB'):PW X (.BoolOp .And (a :: b :: rest) pos) (Vk tA tB'):=by
 intro wh pins s σ H Q I h
 refine isTrue_and (bP (ha pins s σ H _ I h) fun c s1 ⟨H1,I1,q1⟩=>?_)
 cases c with
 | true=>exact hb wh pins s1 σ H1 Q I1 q1
 | false=>exact ⟨H1,I1,q1⟩
theorem VH (ha:PT X a tA) (hb:PW X (.BoolOp .Or (b :: rest) pos) tB'):PW X (.BoolOp .Or (a :: b :: rest) pos) (Wi tA tB'):=by
 intro wh pins s σ H Q I h
 refine isTrue_or (bP (ha pins s σ H _ I h) fun c s1 ⟨H1,I1,q1⟩=>?_)
 cases c with
 | true=>exact ⟨H1,I1,q1⟩
 | false=>exact hb wh pins s1 σ H1 Q I1 q1
theorem Tw (ha:PT X a tA):PT X (.UnaryOp .Not a pos) (Uh tA):=by
 intro pins s σ H Q I h
 exact isTrue_not (ha pins s σ H (fun c H1=>Q (!c) H1) I h)
def QF (ta tb:TE):TE:=fun σ H Q=>ta σ H fun x H1=>∃ c,x=.bl c/\if c=true then tb σ H1 Q else Q (.bl false) H1
def P0 (ta:TE):TE:=fun σ H Q=>ta σ H fun x H1=>∃ c,x=.bl c/\Q (.bl (!c)) H1
theorem Tp {op} {t:TE} (h:PE X a t):PE X (.BoolOp op [a] pos) t:=fun pins s σ H Q I hw=>BoolOp_one (h pins s σ H Q I hw)
theorem Vm (ha:PE X a ta) (hb:PE X (.BoolOp .And (b :: rest) pos) tb):PE X (.BoolOp .And (a :: b :: rest) pos) (QF ta tb):=by
 intro pins s σ H Q I h
 refine BoolOp_and (bP (ha pins s σ H _ I h) fun v s1 ⟨x,H1,I1,r1,q1⟩=>?_)
 obtain ⟨c,rfl,q1⟩:=q1
 cases r1
 refine wpAny_truthy_bool ?_
 cases c with
 | true=>exact hb pins s1 σ H1 Q I1 q1
 | false=>exact ⟨.bl false,H1,I1,rfl,q1⟩
theorem SD (ha:PE X a ta):PE X (.UnaryOp .Not a pos) (P0 ta):=by
 intro pins s σ H Q I h
 refine UnaryOp_ (bP (ha pins s σ H _ I h) fun v s1 ⟨x,H1,I1,r1,q1⟩=>?_)
 obtain ⟨c,rfl,q1⟩:=q1
 cases r1
 exact not_of (wpAny_truthy_bool ⟨.bl (!c),H1,I1,rfl,q1⟩)
def Wg (t:TT) (ta tb:TE):TE:=fun σ H Q=>t σ H fun c H1=>if c=true then ta σ H1 Q else tb σ H1 Q
theorem Pn {c:Expr} (hc:PT X c tA) (ha:PE X a ta) (hb:PE X b tb):PE X (.IfExp c a b pos) (Wg tA ta tb):=by
 intro pins s σ H Q I h
 refine wpAny_IfExp (bP (hc pins s σ H _ I h) fun d s1 ⟨H1,I1,q1⟩=>?_)
 cases d with
 | true=>exact ha pins s1 σ H1 Q I1 q1
 | false=>exact hb pins s1 σ H1 Q I1 q1
end
def dM (K:PySem.W.Frag) (H:Hp) (a:Addr) (xs:List V):Prop :=
 Rd H a (.lst xs) \/
  ∃ (o:Obj) (its:Array Value) (n:Nat),K.lookup a=some o/\o.cls=.type "list"/\o.dict=none/\o.data=.seq its n/\its.size<=sizeLine/\Vals xs its.toList
def fA (K:PySem.W.Frag) (H:Hp) (a:Addr) (xs:List V):Prop :=
 Rd H a (.tup xs) \/
  ∃ (o:Obj) (its:Array Value) (n:Nat),K.lookup a=some o/\o.cls=.type "tuple"/\o.dict=none/\o.data=.seq its n/\its.size<=sizeLine/\Vals xs its.toList
def WR:Value->Option V
 | .none=>some .non
 | .bool b=>some (.bl b)
 | .int i _=>some (.int i)
 | .str x _=>some (.str x)
 | .bytes b _=>some (.byt b)
 | .float b _=>some (.flt b)
 | .ref a=>some (.ref a)
 | .type n=>some (.ty n)
 | _=>none
theorem RelV.abs {x:V} {u:Value} (r:RelV x u):WR u=some x:=by
 cases x with
 | non=>cases r;rfl
 | bl _=>cases r;rfl
 | int _=>obtain ⟨t,rfl⟩:=r;rfl
 | str _=>obtain ⟨t,rfl⟩:=r;rfl
 | byt _=>obtain ⟨t,rfl⟩:=r;rfl
 | flt _=>obtain ⟨t,rfl⟩:=r;rfl
 | ref _=>cases r;rfl
 | ty _=>cases r;rfl
theorem RelV.inj {x y:V} {u:Value} (r:RelV x u) (q:RelV y u):x=y:=Option.some.inj (r.abs.symm.trans q.abs)
theorem Vals.inj:∀ {xs ys:List V} {us:List Value},Vals xs us->Vals ys us->xs=ys
 | _,_,_,.nil,.nil=>rfl
 | _,_,_,.cons r t,.cons r' t'=>by rw [r.inj r',Vals.inj t t']
section
variable {X:Cx} {pins:List (Addr × Obj)} {σ:St} {H:Hp} {s:Shared} {a:Addr} {xs ys:List V}
theorem Inv.list (I:Inv X pins σ H s) (h:dM X.K H a xs):∃ its:List Value,Vals xs its/\PlainL s.heap a its.toArray/\xs.length<=sizeLine:=by
 rcases h with h | ⟨o,its,n,hk,hc,hd,hs,hz,r⟩
 ·obtain ⟨z,its,n,r,e⟩:=h.ok I.hok
  exact ⟨its,r,⟨_,n,e,rfl,rfl,rfl⟩,z⟩
 ·refine ⟨its.toList,r,⟨o,n,I.kIn a o hk,hc,hd,by simpa using hs⟩,?_⟩
  have e:=r.length
  simp only [Array.length_toList] at e
  omega
theorem Inv.tupleP (I:Inv X pins σ H s) (h:fA X.K H a xs):∃ its:List Value,Vals xs its/\iH s.heap a its.toArray/\xs.length<=sizeLine:=by
 rcases h with h | ⟨o,its,n,hk,hc,hd,hs,hz,r⟩
 ·obtain ⟨z,its,r,p⟩:=h.ok I.hok
  exact ⟨its,r,p,z⟩
 ·refine ⟨its.toList,r,⟨o,I.kIn a o hk,hc,hd,n,by simpa using hs⟩,?_⟩
  have e:=r.length
  simp only [Array.length_toList] at e
  omega
theorem Inv.tuple (I:Inv X pins σ H s) (h:fA X.K H a xs):∃ its:List Value,Vals xs its/\IsTup s.heap a its.toArray/\xs.length<=sizeLine:=by
 obtain ⟨its,r,p,z⟩:=I.tupleP h
 exact ⟨its,r,p.tup,z⟩
theorem Inv.list_inj (I:Inv X pins σ H s) (h:dM X.K H a xs) (h':dM X.K H a ys):xs=ys:=by
 obtain ⟨its,r,⟨o,n,e,_,_,d⟩,_⟩:=I.list h
 obtain ⟨its',r',⟨o',n',e',_,_,d'⟩,_⟩:=I.list h'
 rw [e] at e';cases e'
 rw [d] at d'
 injection d' with d1 _
 have:its=its':=by simpa using congrArg Array.toList d1
 subst this
 exact r.inj r'
theorem Inv.tuple_inj (I:Inv X pins σ H s) (h:fA X.K H a xs) (h':fA X.K H a ys):xs=ys:=by
 obtain ⟨its,r,⟨o,e,_,n,d⟩,_⟩:=I.tuple h
 obtain ⟨its',r',⟨o',e',_,n',d'⟩,_⟩:=I.tuple h'
 rw [e] at e';cases e'
 rw [d] at d'
 injection d' with d1 _
 have:its=its':=by simpa using congrArg Array.toList d1
 subst this
 exact r.inj r'
end
abbrev Cx.wish (X:Cx) (E:Value->Shared->Prop):Cx:={ X with xe:=E }
abbrev Cx.nox (X:Cx):Cx:=X.wish fun _ _=>False
theorem Cx.Ok.wish {X:Cx} (ok:X.Ok) (E:Value->Shared->Prop):(X.wish E).Ok :=
 ⟨ok.mod,ok.kind,ok.glob,ok.blt,ok.above,ok.inj,ok.has,ok.cab,ok.hd,ok.frames,ok.stk,ok.exf,ok.bs,ok.bsz,ok.noex,ok.exfs,ok.funs,ok.frf⟩
theorem Cx.Ok.unwish {X:Cx} {E:Value->Shared->Prop} (ok:(X.wish E).Ok):X.Ok :=
 ⟨ok.mod,ok.kind,ok.glob,ok.blt,ok.above,ok.inj,ok.has,ok.cab,ok.hd,ok.frames,ok.stk,ok.exf,ok.bs,ok.bsz,ok.noex,ok.exfs,ok.funs,ok.frf⟩
section
variable {X:Cx} {pins:List (Addr × Obj)} {σ:St} {H:Hp} {s:Shared} {E:Value->Shared->Prop}
theorem Inv.wish (I:Inv X pins σ H s) (E:Value->Shared->Prop):Inv (X.wish E) pins σ H s:=⟨I.ok.wish E,I.os,I.bare,I.base,I.loc,I.cell,I.free,I.freeC,I.pin,I.hok,I.len⟩
theorem Inv.unwish (I:Inv (X.wish E) pins σ H s):Inv X pins σ H s:=⟨I.ok.unwish,I.os,I.bare,I.base,I.loc,I.cell,I.free,I.freeC,I.pin,I.hok,I.len⟩
theorem SP.unwish {D:Ends} {f:Flow} {s':Shared} (h:SP (X.wish E) pins D f s'):SP X pins D f s':=by
 cases f with
 | next=>obtain ⟨σ',H',I,q⟩:=h;exact ⟨σ',H',I.unwish,q⟩
 | brk=>obtain ⟨σ',H',I,q⟩:=h;exact ⟨σ',H',I.unwish,q⟩
 | cont=>obtain ⟨σ',H',I,q⟩:=h;exact ⟨σ',H',I.unwish,q⟩
 | ret u=>obtain ⟨v,σ',H',I,r,q⟩:=h;exact ⟨v,σ',H',I.unwish,r,q⟩
theorem mL.nox {st:List Stmt} {t:TS} (h:mL X.nox st t):mL X st t:=fun pins s σ H D I hw =>
 wpAny_mono (h pins s σ H D (I.wish _) hw) (fun _ _ q=>q.unwish) fun _ _ z=>False.elim z
end
section
variable {X:Cx} {st:Stmt} {rest:List Stmt} {t u:TS} {e:Expr} {te:TE} {pos:Pos}
def QC:TS:=fun D σ H=>D.nx σ H
def SN (t u:TS):TS:=fun D σ H=>t { D with nx:=u D } σ H
theorem QY:mL X [] QC:=fun _ _ σ H _ I h=>wpAny_execs_nil ⟨σ,H,I,h⟩
theorem vG (h1:PS X st t) (h2:mL X rest u):mL X (st :: rest) (SN t u):=by
 intro pins s σ H D I h
 refine wpAny_execs_cons (bP (h1 pins s σ H { D with nx:=u D } I h) fun f s1 q=>?_)
 cases f with
 | next =>
  obtain ⟨σ',H',I',q⟩:=q
  exact h2 pins s1 σ' H' D I' q
 | ret v=>exact q
 | brk=>exact q
 | cont=>exact q
theorem yN (h1:PS X st t):mL X [st] t:=by
 intro pins s σ H D I h
 refine wpAny_execs_cons (bP (h1 pins s σ H D I h) fun f s1 q=>?_)
 cases f with
 | next=>exact wpAny_execs_nil q
 | ret v=>exact q
 | brk=>exact q
 | cont=>exact q
theorem Inv.quiet {pins:List (Addr × Obj)} {σ:St} {H:Hp} {s:Shared} (I:Inv X pins σ H s):interactive X.env=false:=by simp [interactive,I.ok.kind]
def Qb (te:TE):TS:=fun D σ H=>te σ H fun _ H1=>D.nx σ H1
theorem GW (he:PE X e te) (hs:swapsWith e none pos.line X.env=pure false:=by rfl):PS X (.Expr e pos) (Qb te):=by
 intro pins s σ H D I h
 exact wpAny_Expr_any (bP (he pins s σ H _ I h) fun v s1 ⟨x,H1,I1,r1,q1⟩=>⟨σ,H1,I1,q1⟩) I.quiet hs
def TY (te:TE):TS:=fun D σ H=>te σ H D.rt
theorem UW (he:PE X e te):PS X (.Return (some e) pos) (TY te):=by
 intro pins s σ H D I h
 exact wpAny_Return_some (bP (he pins s σ H _ I h) fun v s1 ⟨x,H1,I1,r1,q1⟩=>⟨x,σ,H1,I1,r1,q1⟩)
def TB (c:TT) (t u:TS):TS:=fun D σ H=>c σ H fun b H1=>if b=true then t D σ H1 else u D σ H1
theorem Vu {c:Expr} {a b:List Stmt} {tc:TT} (hc:PT X c tc) (ha:mL X a t) (hb:mL X b u):PS X (.If c a b pos) (TB tc t u):=by
 intro pins s σ H D I h
 refine wpAny_If (bP (hc pins s σ H _ I h) fun d s1 ⟨H1,I1,q1⟩=>?_)
 cases d with
 | true=>exact ha pins s1 σ H1 D I1 q1
 | false=>exact hb pins s1 σ H1 D I1 q1
end
abbrev TG:=V->St->Hp->(St->Hp->Prop)->Prop
abbrev oH:=List V->St->Hp->(St->Hp->Prop)->Prop
def PG (X:Cx) (target:Expr) (t:TG):Prop :=
 ∀ (pins:List (Addr × Obj)) (s:Shared) (σ:St) (H:Hp) (v:V) (u:Value) (Q:St->Hp->Prop),Inv X pins σ H s->RelV v u->t v σ H Q ->
  wpAny (model X.prog X.w) X.A (assign target X.env u) (fun _ s'=>∃ σ' H',Inv X pins σ' H' s'/\Q σ' H') X.xe s
def LI (X:Cx) (ts:List Expr) (t:oH):Prop :=
 ∀ (pins:List (Addr × Obj)) (s:Shared) (σ:St) (H:Hp) (vs:List V) (us:List Value) (Q:St->Hp->Prop),Inv X pins σ H s->Vals vs us->t vs σ H Q ->
  wpAny (model X.prog X.w) X.A (assignInOrder ((assignEach ts X.env).map (·.2)) us) (fun _ s'=>∃ σ' H',Inv X pins σ' H' s'/\Q σ' H') X.xe s
abbrev PK:=V->V->V->Hp->(Hp->Prop)->Prop
def T4 (X:Cx) (t:PK):Prop :=
 ∀ (pins:List (Addr × Obj)) (s:Shared) (σ:St) (H:Hp) (o i v:V) (ov iv u:Value) (Q:Hp->Prop),Inv X pins σ H s->RelV o ov->RelV i iv->RelV v u->t o i v H Q ->
  wpAny (model X.prog X.w) X.A (setItem ov iv u) (fun _ s'=>∃ H',Inv X pins σ H' s'/\Q H') X.xe s
abbrev Xc:=V->V->Hp->VK->Prop
section
variable {X:Cx} {pos:Pos}
def qW (i:Nat):TG:=fun v σ H Q=>Q (σ.set i (some v)) H
theorem Sb {i:Nat} {x:Str} (hN:X.N.Nodup) (hi:X.N[i]?=some x) (hx:Loc X.env.scope x) (hf:X.fn x=true\/X.env.scope.names.lookup x=some .local:=by first | exact .inl rfl | exact .inr rfl | assumption):PG X (.Name x pos) (qW i):=by
 intro pins s σ H v u Q I r h
 exact wpAny_assign_Name (qJ I hN hi hx r (fun s' I'=>⟨_,H,I',h⟩) hf)
def Dn:oH:=fun vs σ H Q=>vs=[]/\Q σ H
def yB (t:TG) (u:oH):oH:=fun vs σ H Q=>∃ v r,vs=v :: r/\t v σ H fun σ' H'=>u r σ' H' Q
theorem Sw:LI X [] Dn:=by
 intro pins s σ H vs us Q I r h
 obtain ⟨e,h⟩:=h
 subst e
 cases r
 exact assignInOrder_nil ⟨σ,H,I,h⟩
theorem OI {e:Expr} {es:List Expr} {t:TG} {u:oH} (h1:PG X e t) (h2:LI X es u)
  (hs:(assignEach (e :: es) X.env).map (·.2)=assign e X.env :: (assignEach es X.env).map (·.2):=by rfl):LI X (e :: es) (yB t u):=by
 intro pins s σ H vs us Q I r h
 obtain ⟨v,vr,e1,h⟩:=h
 subst e1
 cases r with
 | cons r rr =>
  rw [hs]
  refine assignInOrder_cons (bP (h1 pins s σ H _ _ _ I r h) fun _ s1 ⟨σ1,H1,I1,q1⟩=>?_)
  exact h2 pins s1 σ1 H1 _ _ Q I1 rr q1
def B6 (K:PySem.W.Frag) (n:Nat) (t:oH):TG:=fun v σ H Q=>∃ a xs,v=.ref a/\fA K H a xs/\xs.length=n/\t xs σ H Q
theorem TU {es:List Expr} {k:Nat} {t:oH} {n:Nat} (hc:X.calm=true) (h:LI X es t)
  (hn:(assignEach es X.env).length=n:=by rfl) (hst:(assignEach es X.env).findIdx? (·.1)=none:=by rfl):PG X (.Tuple es k pos) (B6 X.K n t):=by
 intro pins s σ H v u Q I r hw
 obtain ⟨a,xs,e1,hq,hl,hw⟩:=hw
 subst e1
 cases r
 obtain ⟨its,rv,ht,hz⟩:=I.tuple hq
 refine assign_Tuple_tuple (I.ok.hd hc) ht (by simp [hn,<- hl,rv.length]) hst fun h' hx=>?_
 have I1:Inv X pins σ H { s with heap:=h' }:=I.kept (t':=s.toks) fun b o e=>hx b o (Nat.ne_of_lt (Heap.lt_size e)) e
 exact h pins _ σ H xs _ Q I1 (by simpa using rv) hw
def WA (to ti:TE) (t:PK):TG:=fun v σ H Q=>to σ H fun o H1=>ti σ H1 fun i H2=>t o i v H2 fun H3=>Q σ H3
theorem Vo {o i:Expr} {to ti:TE} {t:PK} (ho:PE X o to) (hi:PE X i ti) (hs:T4 X t)
  (ha:∀ v,assign (.Subscript o i pos) X.env v=(do
   let ov <- holding [v] (eval o X.env)
   let iv <- holding [v,ov] (eval i X.env)
   standAt pos
   holding [v,ov,iv] (setItem ov iv v)
   release [v,ov,iv] []):=by intro _;rfl):PG X (.Subscript o i pos) (WA to ti t):=by
 intro pins s σ H v u Q I r h
 rw [ha]
 refine wpAny_bind (wpAny_holding (bP (ho pins s σ H _ I h) fun ov s1 ⟨x,H1,I1,r1,q1⟩=>?_))
 refine wpAny_bind (wpAny_holding (bP (hi pins s1 σ H1 _ I1 q1) fun iv s2 ⟨y,H2,I2,r2,q2⟩=>?_))
 refine wpAny_bind (wpAny_standAt (wpAny_bind (wpAny_holding (bP (hs pins s2 σ H2 x y v ov iv u _ I2 r1 r2 r q2) fun _ s3 ⟨H3,I3,q3⟩=>?_))))
 exact wpAny_release ⟨σ,H3,I3,q3⟩
def IG (te:TE) (g:TG):TS:=fun D σ H=>te σ H fun x H1=>g x σ H1 D.nx
theorem Uw {tg e:Expr} {te:TE} {g:TG} (he:PE X e te) (hg:PG X tg g) (hs:swapsWithSole [tg] e pos.line X.env=pure false:=by rfl) (hw:swappedStores [tg] e X.env=pure none:=by rfl)
  (h1:(assignEach [tg] X.env).map (·.2)=[assign tg X.env]:=by rfl):PS X (.Assign [tg] e pos) (IG te g):=by
 intro pins s σ H D I h
 refine wpAny_Assign_stores (bP (he pins s σ H _ I h) fun v s1 ⟨x,H1,I1,r1,q1⟩=>?_) hs hw
 rw [h1]
 exact bP (hg pins s1 σ H1 x v _ I1 r1 q1) fun _ s2 q=>q
theorem CK {i:Nat} {x:Str} {e:Expr} {te:TE} {pos':Pos} (hN:X.N.Nodup) (hi:X.N[i]?=some x) (hx:Loc X.env.scope x) (he:PE X e te) (hs:swapsWith e (some (.Name x pos')) pos.line X.env=pure false:=by rfl) (hf:X.fn x=true\/X.env.scope.names.lookup x=some .local:=by first | exact .inl rfl | exact .inr rfl | assumption) :
  PS X (.Assign [.Name x pos'] e pos) (IG te (qW i)):=by
 intro pins s σ H D I h
 refine wpAny_Assign_Name (bP (he pins s σ H _ I h) fun v s1 ⟨y,H1,I1,r1,q1⟩=>?_) hs
 exact qJ I1 hN hi hx r1 (fun s2 I2=>⟨_,H1,I2,q1⟩) hf
end
section
variable {X:Cx} {pos:Pos}
def Lq (c:TT) (tb:TS):TS:=fun D σ H=>∃ W:Nat->St->Hp->Prop,(∃ m,W m σ H)/\∀ m σ H,W m σ H ->
 c σ H fun b H1=>if b=true then ∃ N:St->Hp->Prop,(∀ σ' H',N σ' H'->∃ m',m' < m/\W m' σ' H')/\tb { D with nx:=N,ct:=N,bk:=D.nx } σ H1 else D.nx σ H1
theorem OH {c:Expr} {body:List Stmt} {tc:TT} {tb:TS} (hp:PassesOwn (model X.prog X.w) X.A X.env X.xe) (hc:PT X c tc) (hb:mL X body tb):PS X (.While c body [] pos) (Lq tc tb):=by
 intro pins s σ H D I h
 obtain ⟨W,⟨m0,w0⟩,turn⟩:=h
 refine wpAny_While (codeAny_whileLoop (fun n s'=>∃ σ' H',Inv X pins σ' H' s'/\W n σ' H') ?_ m0 ⟨σ,H,I,w0⟩)
 rintro n s1 ⟨σ1,H1,I1,w1⟩
 refine wpAny_passesOwn hp (bP (hc pins s1 σ1 H1 _ I1 (turn n σ1 H1 w1)) fun b s2 ⟨H2,I2,q2⟩=>?_)
 cases b with
 | true =>
  obtain ⟨N,hN,q2⟩:=q2
  rw [if_pos rfl]
  refine wpAny_passesOwn hp (bP (hb pins s2 σ1 H2 _ I2 q2) fun f s3 q3=>?_)
  cases f with
  | next =>
   obtain ⟨σ3,H3,I3,n3⟩:=q3
   obtain ⟨m',hm,w3⟩:=hN σ3 H3 n3
   exact ⟨m',hm,σ3,H3,I3,w3⟩
  | cont =>
   obtain ⟨σ3,H3,I3,n3⟩:=q3
   obtain ⟨m',hm,w3⟩:=hN σ3 H3 n3
   exact ⟨m',hm,σ3,H3,I3,w3⟩
  | brk=>exact q3
  | ret v=>exact q3
 | false =>
  rw [if_neg Bool.false_ne_true]
  exact wpAny_execs_nil ⟨σ1,H2,I2,q2⟩
end
structure It where
 go:Nat->Hp->Prop
 yld:Nat->Hp->V->Hp->Prop
 stop:Nat->Hp->Prop
def kF (X:Cx) (pins:List (Addr × Obj)) (H:Hp) (b:Addr):Prop :=
 H b=none/\b≠X.env.locals/\b ∉ X.fs/\(b∈X.ex\/X.s₀.heap.objs.size<=b)/\(∀ x c,X.env.cells.lookup x=some c->c≠b)/\∀ p∈X.pn++pins,p.1≠b
theorem Inv.fpOk {X:Cx} {pins:List (Addr × Obj)} {σ:St} {H H':Hp} {s:Shared} {b:Addr} (I:Inv X pins σ H s) (hb:s.heap.objs.size<=b) (hn:H' b=none):kF X pins H' b:=by
 refine ⟨hn,Nat.ne_of_gt (Nat.lt_of_lt_of_le I.lt hb),I.nofs hb,.inr (Nat.le_trans I.sz hb),fun x c e z=>?_,fun p hp z=>?_⟩
 ·obtain ⟨v,q⟩:=I.cell x c e
  exact absurd (Nat.lt_of_lt_of_le q.lt (by rw [z];exact hb)) (Nat.lt_irrefl _)
 ·exact absurd (Nat.lt_of_lt_of_le (Heap.lt_size (I.pin p hp).1) (by rw [z];exact hb)) (Nat.lt_irrefl _)
structure Turn (P:Program) (w:World) (K:PySem.W.Frag) (tg:Expr) (J:It) (fp:List Addr) (it:Addr) (tn:Nat->Heap->Prop):Prop where
 mem:it∈fp
 obj:∀ i h,tn i h->∀ b∈fp,∃ o,h.get? b=some o/\∀ v,o.data≠.cell v
 keep:∀ i h h',tn i h->(∀ b∈fp,∀ o,h.get? b=some o->h'.get? b=some o)->tn i h'
 item:∀ (X:Cx),X.prog=P->X.w=w->X.K=K->X.calm=true->∀ (i:Nat) (pins:List (Addr × Obj)) (s:Shared) (σ:St) (H:Hp) (E:Value->Shared->Prop),Inv X pins σ H s->(∀ b∈fp,kF X pins H b)->tn i s.heap->J.go i H ->
  wpAny (model P w) X.A (pyNext (.ref it)) (fun r s1=>∃ u,r=some u /\
   wpAny (model P w) X.A (letOwnedTupleGo tg (.ref it) u) (fun _ s2=>∃ x H',Inv X pins σ H' s2/\RelV x u/\J.yld i H x H'/\tn (i + 1) s2.heap/\∀ b∈fp,H' b=none) E s1) E s
 done:∀ (X:Cx),X.prog=P->X.w=w->X.K=K->X.calm=true->∀ (i:Nat) (pins:List (Addr × Obj)) (s:Shared) (σ:St) (H:Hp) (E:Value->Shared->Prop),Inv X pins σ H s->(∀ b∈fp,kF X pins H b)->tn i s.heap->J.stop i H ->
  wpAny (model P w) X.A (pyNext (.ref it)) (fun r s1=>r=none/\Inv X pins σ H s1) E s
 self:∀ (A:Around) (i:Nat) (s:Shared) (Q:Value->Shared->Prop) (E:Value->Shared->Prop),tn i s.heap->Q (.ref it) s->wpAny (model P w) A (pyIter (.ref it)) Q E s
abbrev TI:=St->Hp->(It->Hp->Prop)->Prop
def Wl (X:Cx) (pins:List (Addr × Obj)) (σ:St) (tg:Expr) (R:It->Hp->Prop) (itv:Value) (s2:Shared):Prop :=
 ∃ (it:Addr) (fp:List Addr) (tn:Nat->Heap->Prop) (J:It) (H':Hp),itv=.ref it/\Inv X pins σ H' s2/\Turn X.prog X.w X.K tg J fp it tn/\tn 0 s2.heap/\(∀ b∈fp,kF X pins H' b)/\R J H'
def PI (X:Cx) (tg iter:Expr) (wi:TI):Prop :=
 ∀ (pins:List (Addr × Obj)) (s:Shared) (σ:St) (H:Hp) (R:It->Hp->Prop),Inv X pins σ H s->wi σ H R ->
  wpAny (model X.prog X.w) X.A (eval iter X.env) (fun v s1=>wpAny (model X.prog X.w) X.A (pyIter v) (Wl X pins σ tg R) X.xe s1) X.xe s
theorem tR {M:Model} {A:Around} {E:Value->Shared->Prop} {s:Shared} {tg:Expr} {it:Addr} {u:Value} {o:Obj} {n:String} {vs:Array Value} {Q:Unit->Shared->Prop} (ho:s.heap.get? it=some o) (hc:o.cls=.type n) (hd:o.data=.fields vs)
    (hn:["enumerate","zip","dict_itemiterator","dict_reverseitemiterator","odict_iterator","itertools.zip_longest","itertools.pairwise"].contains n=false) (hQ:Q () s):wpAny M A (letOwnedTupleGo tg (.ref it) u) Q E s:=by
  unfold letOwnedTupleGo
  cases tg <;> first
    | exact wpAny_pure hQ
    | (cases u <;> first
        | exact wpAny_pure hQ
        | (refine wpAny_bind (wpAny_load ho ?_)
           rw [hc,hd]
           show wpAny M A (if (["enumerate","zip","dict_itemiterator","dict_reverseitemiterator","odict_iterator","itertools.zip_longest","itertools.pairwise"].contains n && vs[0]? == some (rawInt _))=true then _ else _) Q E s
           rw [if_neg (by intro h;rw [hn,Bool.false_and] at h;cases h)]
           exact wpAny_pure hQ))
def QE (K:PySem.W.Frag) (a:Addr):It :=
 ⟨fun i H=>∃ xs x,dM K H a xs/\xs[i]?=some x,fun i H x H'=>H'=H/\∀ xs,dM K H a xs->xs[i]?=some x,fun i H=>∃ xs,dM K H a xs/\xs.length<=i⟩
def Tg (K:PySem.W.Frag) (a:Addr):It :=
 ⟨fun i H=>∃ xs x,fA K H a xs/\xs[i]?=some x,fun i H x H'=>H'=H/\∀ xs,fA K H a xs->xs[i]?=some x,fun i H=>∃ xs,fA K H a xs/\xs.length<=i⟩
def Aa (lo:Int) (n:Nat):It:=⟨fun i _=>i < n,fun i H x H'=>H'=H/\x=.int (lo + i),fun i _=>n<=i⟩
theorem Li {P:Program} {w:World} {K:PySem.W.Frag} {tg:Expr} (a it:Addr):Turn P w K tg (QE K a) [it] it (fun i h=>h.IsListIter it a i) where
 mem:=by simp
 obj:=fun i h st b hb=>by
  have e:b=it:=by simpa using hb
  subst e
  obtain ⟨o,e,c,d⟩:=st
  exact ⟨o,e,fun v z=>by rw [d] at z;cases z⟩
 keep:=fun i h h' st k=>st.at fun o e=>k it (by simp) o e
 item:=by
  intro X hP hw hK hc i pins s σ H E I hf st hg
  subst hP hw hK
  obtain ⟨xs,x,hq,hx⟩:=hg
  obtain ⟨its,rv,p,hz⟩:=I.list hq
  obtain ⟨u,hu,ru⟩:=rv.get hx
  obtain ⟨f0,f1,f2,f3,f4,f5⟩:=hf it (by simp)
  refine wpAny_pyNext_list_item st p.isList (x:=u) (by simpa using hu) fun h' st' sb=>?_
  have I1:Inv X pins σ H { s with heap:=h' }:=I.turned (t':=s.toks) (fun b o hb e=>(sb.2 b hb).trans e) f0 f1 f3 f4 f5
  obtain ⟨o,e,c,d⟩:=id st'
  exact ⟨u,rfl,tR (s:={ s with heap:=h' }) e c d (by decide) ⟨x,H,I1,ru,⟨rfl,fun ys hy=>by rw [I.list_inj hy hq];exact hx⟩,st',fun b hb=>(hf b hb).1⟩⟩
 done:=by
  intro X hP hw hK hc i pins s σ H E I hf st hg
  subst hP hw hK
  obtain ⟨xs,hq,hx⟩:=hg
  obtain ⟨its,rv,p,hz⟩:=I.list hq
  obtain ⟨f0,f1,f2,f3,f4,f5⟩:=hf it (by simp)
  have hl:=rv.length
  exact wpAny_pyNext_list_end (I.ok.hd hc) st p.isList (by simp;omega) fun h' eb=>⟨rfl,I.turned (t':=s.toks) (fun b o hb e=>eb b o hb e) f0 f1 f3 f4 f5⟩
 self:=fun _ _ _ _ _ st h=>wpAny_pyIter_listiter st h
theorem IF {P:Program} {w:World} {K:PySem.W.Frag} {tg:Expr} (a it:Addr):Turn P w K tg (Tg K a) [it] it (fun i h=>h.IsTupleIter it a i) where
 mem:=by simp
 obj:=fun i h st b hb=>by
  have e:b=it:=by simpa using hb
  subst e
  obtain ⟨o,e,c,d⟩:=st
  exact ⟨o,e,fun v z=>by rw [d] at z;cases z⟩
 keep:=fun i h h' st k=>st.at fun o e=>k it (by simp) o e
 item:=by
  intro X hP hw hK hc i pins s σ H E I hf st hg
  subst hP hw hK
  obtain ⟨xs,x,hq,hx⟩:=hg
  obtain ⟨its,rv,p,hz⟩:=I.tuple hq
  obtain ⟨u,hu,ru⟩:=rv.get hx
  obtain ⟨f0,f1,f2,f3,f4,f5⟩:=hf it (by simp)
  refine wpAny_pyNext_tuple_item st (show s.heap.IsTuple a its.toArray from p) (x:=u) (by simpa using hu) fun h' st' sb=>?_
  have I1:Inv X pins σ H { s with heap:=h' }:=I.turned (t':=s.toks) (fun b o hb e=>(sb.2 b hb).trans e) f0 f1 f3 f4 f5
  obtain ⟨o,e,c,d⟩:=id st'
  exact ⟨u,rfl,tR (s:={ s with heap:=h' }) e c d (by decide) ⟨x,H,I1,ru,⟨rfl,fun ys hy=>by rw [I.tuple_inj hy hq];exact hx⟩,st',fun b hb=>(hf b hb).1⟩⟩
 done:=by
  intro X hP hw hK hc i pins s σ H E I hf st hg
  subst hP hw hK
  obtain ⟨xs,hq,hx⟩:=hg
  obtain ⟨its,rv,p,hz⟩:=I.tuple hq
  obtain ⟨f0,f1,f2,f3,f4,f5⟩:=hf it (by simp)
  have hl:=rv.length
  exact wpAny_pyNext_tuple_end (I.ok.hd hc) st (show s.heap.IsTuple a its.toArray from p) (by simp;omega) fun h' eb=>⟨rfl,I.turned (t':=s.toks) (fun b o hb e=>eb b o hb e) f0 f1 f3 f4 f5⟩
 self:=fun _ _ _ _ _ st h=>wpAny_pyIter_tupleiter st h
theorem JM {P:Program} {w:World} {K:PySem.W.Frag} {tg:Expr} (it:Addr) (lo:Int) (n:Nat):Turn P w K tg (Aa lo n) [it] it (fun i h=>IsRangeIter h it (lo + (i:Nat) * 1) ((n:Int) - (i:Nat)) 1) where
 mem:=by simp
 obj:=fun i h st b hb=>by
  have e:b=it:=by simpa using hb
  subst e
  exact ⟨_,st,fun v z=>by
   have z':Data.fields _=Data.cell v:=z
   cases z'⟩
 keep:=fun i h h' st k=>k it (by simp) _ st
 item:=by
  intro X hP hw hK hc i pins s σ H E I hf st hg
  subst hP hw hK
  obtain ⟨f0,f1,f2,f3,f4,f5⟩:=hf it (by simp)
  have W:=Walks.range (prog:=X.prog) (w:=X.w) (I.ok.hd hc) it lo 1 n
  refine W.item i s _ _ hg st fun v h' tk hv st' kk=>?_
  obtain ⟨t,rfl⟩:=hv
  have I1:Inv X pins σ H { s with heap:=h',toks:=tk }:=I.turned (fun b o hb e=>kk b o (by simpa using hb) e) f0 f1 f3 f4 f5
  refine ⟨_,rfl,tR (s:={ s with heap:=h',toks:=tk }) (n:="range_iterator") st' rfl rfl (by decide) ⟨.int (lo + i),H,I1,⟨t,?_⟩,⟨rfl,rfl⟩,st',fun b hb=>(hf b hb).1⟩⟩
  rw [Int.mul_one]
 done:=by
  intro X hP hw hK hc i pins s σ H E I hf st hg
  subst hP hw hK
  obtain ⟨f0,f1,f2,f3,f4,f5⟩:=hf it (by simp)
  exact wpAny_pyNext_range_end (I.ok.hd hc) st (by have:n<=i:=hg;omega) fun h' eb=>⟨rfl,I.turned (t':=s.toks) (fun b o hb e=>eb b o hb e) f0 f1 f3 f4 f5⟩
 self:=fun _ _ _ _ _ st h=>wpAny_pyIter_rangeiter st h
section
variable {X:Cx} {tg:Expr}
theorem N1 {pins:List (Addr × Obj)} {σ:St} {H:Hp} {s:Shared} {R:It->Hp->Prop} {E:Value->Shared->Prop} {lo hi:Int} {t u v:Tok} {tk:Nat} (I:Inv X pins σ H s) (h1:-(2 ^ 62)<=lo) (h2:lo < 2 ^ 62) (h3:-(2 ^ 62)<=hi) (h4:hi < 2 ^ 62)
  (q:R (Aa lo (hi - lo).toNat) H):wpAny (model X.prog X.w) X.A (pyIter (.ref s.heap.objs.size)) (Wl X pins σ tg R) E { s with heap:=s.heap.push { cls:=.type "range",data:=.fields #[.int lo t,.int hi u,.int 1 v] },toks:=tk }:=by
 refine wpAny_pyIter_range (IsRange.new ..) (small_one h1 h2 h3 h4) ?_
 have I1:Inv X pins σ H { s with heap:=s.heap.push { cls:=.type "range",data:=.fields #[.int lo t,.int hi u,.int 1 v] },toks:=tk }:=I.kept fun b o e=>Heap.get?_push_of_some _ e
 refine ⟨(s.heap.push { cls:=.type "range",data:=.fields #[.int lo t,.int hi u,.int 1 v] }).objs.size,[(s.heap.push { cls:=.type "range",data:=.fields #[.int lo t,.int hi u,.int 1 v] }).objs.size],_,_,H,rfl,
  I1.kept (t':=tk) fun b o e=>Heap.get?_push_of_some _ e,JM _ lo (hi - lo).toNat,?_,fun b hb=>?_,q⟩
 ·have e1:lo + ((0:Nat):Int) * 1=lo:=by simp
  have e2:(((hi - lo).toNat:Nat):Int) - ((0:Nat):Int)=Builtin.Range.rangeSize lo hi 1:=by rw [rangeSize_one];split <;> omega
  show IsRangeIter _ _ (lo + ((0:Nat):Int) * 1) ((((hi - lo).toNat:Nat):Int) - ((0:Nat):Int)) 1
  rw [e1,e2]
  exact Heap.get?_push_size _ rfl
 ·have e:b=(s.heap.push { cls:=.type "range",data:=.fields #[.int lo t,.int hi u,.int 1 v] }).objs.size:=by simpa using hb
  subst e
  exact I1.fpOk (Nat.le_refl _) (I1.hok.fresh (Nat.le_refl _))
def Qp (ta:TA):TI:=fun σ H R=>ta σ H fun vs H1=>∃ j:Int,vs=[.int j]/\-(2 ^ 62)<=j/\j < 2 ^ 62/\R (Aa 0 j.toNat) H1
theorem Mp {a:Expr} {ta:TA} {p pos:Pos} (hg:Gl X "range") (hm:X.mg "range"=none) (ha:PA X [a] ta) (hs:starEach [a] X.env=[(false,eval a X.env)]:=by rfl):PI X tg (.Call (.Name "range" p) [a] [] pos) (Qp ta):=by
 intro pins s σ H R I h
 refine Call_ (lH I hg hm boot_range (PyProof.Rows.callWith_type1 (bP (ha pos pins s σ H _ I h) fun us s1 ⟨vs,H1,I1,r1,q1⟩=>?_) hs rfl))
 obtain ⟨j,e,q1,q2,q⟩:=q1
 subst e
 cases r1 with
 | cons r rr =>
  cases rr
  obtain ⟨t,rfl⟩:=r
  exact call_range_1 (N1 I1 (by omega) (by omega) q1 q2 (by simpa using q))
def Tu (wi:TI) (g:TG) (tb:TS):TS:=fun D σ H=>wi σ H fun J H1=>∃ W:Nat->Nat->St->Hp->Prop,(∃ m,W 0 m σ H1)/\∀ i m σ H,W i m σ H ->
 (J.stop i H/\D.nx σ H)\/(J.go i H/\∃ N:St->Hp->Prop,(∀ σ' H',N σ' H'->∃ m',m' < m/\W (i + 1) m' σ' H')/\∀ x H',J.yld i H x H'->g x σ H' fun σ2 H2=>tb { D with nx:=N,ct:=N,bk:=D.nx } σ2 H2)
def sW (fp:List Addr) (h:Heap):List (Addr × Obj):=fp.filterMap fun b=>(h.get? b).map fun o=>(b,o)
theorem m6 {fp:List Addr} {h:Heap} {b:Addr} {o:Obj} (hb:b∈fp) (e:h.get? b=some o):(b,o)∈sW fp h:=List.mem_filterMap.mpr ⟨b,hb,by rw [e];rfl⟩
theorem KI {fp:List Addr} {h:Heap} {p:Addr × Obj} (hp:p∈sW fp h):p.1∈fp/\h.get? p.1=some p.2:=by
 obtain ⟨b,hb,e⟩:=List.mem_filterMap.mp hp
 cases q:h.get? b with
 | none=>rw [q] at e;cases e
 | some o =>
  rw [q] at e
  have e':(b,o)=p:=Option.some.inj e
  subst e'
  exact ⟨hb,q⟩
theorem Inv.pinned {pins:List (Addr × Obj)} {σ:St} {H:Hp} {s:Shared} {fp:List Addr} (I:Inv X pins σ H s) (hf:∀ b∈fp,kF X pins H b) (ho:∀ b∈fp,∃ o,s.heap.get? b=some o/\∀ v,o.data≠.cell v):Inv X (pins++sW fp s.heap) σ H s :=
 I.pins_of fun p hp=>(List.mem_append.mp hp).elim (fun z=>I.pin p (List.mem_append_right _ z)) fun z=>by
  obtain ⟨hb,e⟩:=KI z
  obtain ⟨f0,f1,f2,_⟩:=hf p.1 hb
  obtain ⟨o,e',d⟩:=ho p.1 hb
  rw [e] at e';cases e'
  exact ⟨e,f0,f1,f2,d⟩
theorem Inv.unpinned {pins pl:List (Addr × Obj)} {σ:St} {H:Hp} {s:Shared} (I:Inv X (pins++pl) σ H s):Inv X pins σ H s:=I.pins_of fun p hp=>I.pin p (List.mem_append_right _ (List.mem_append_left _ hp))
theorem Uc {iter:Expr} {body:List Stmt} {wi:TI} {g:TG} {tb:TS} {pos:Pos} (hp:PassesOwn (model X.prog X.w) X.A X.env X.xe) (hc:X.calm=true) (hi:PI X tg iter wi) (hg:PG X tg g) (hb:mL X body tb)
  (hs:∀ x,foldedSetIterable iter X.env x=pure x:=by intro _;rfl):PS X (.For tg iter body [] pos) (Tu wi g tb):=by
 intro pins s σ H D I h
 refine wpAny_For (bP (hi pins s σ H _ I h) fun v s1 h1=>bP h1 fun itv s2 h2=>?_) hs
 obtain ⟨it,fp,tn,J,H2,e,I2,T,j0,f2,W,⟨m0,w0⟩,turn⟩:=h2
 subst e
 have stat:∀ {H':Hp},(∀ b∈fp,H' b=none)->∀ b∈fp,kF X pins H' b:=fun hn b hb=>⟨hn b hb,(f2 b hb).2⟩
 refine codeAny_forLoop_any (fun n s'=>∃ i σ' H',Inv X pins σ' H' s'/\tn i s'.heap/\(∀ b∈fp,H' b=none)/\W i n σ' H') ?_ m0 ⟨0,σ,H2,I2,j0,fun b hb=>(f2 b hb).1,w0⟩
 rintro n s3 ⟨i,σ3,H3,I3,st3,fr3,w3⟩
 rcases turn i n σ3 H3 w3 with ⟨stop,qn⟩ | ⟨go,N,hN,step⟩
 ·refine wpAny_passesOwn hp (bP (T.done X rfl rfl rfl hc i pins s3 σ3 H3 X.xe I3 (stat fr3) st3 stop) fun r s4 ⟨hr,I4⟩=>?_)
  subst hr
  exact wpAny_execs_nil ⟨σ3,H3,I4,qn⟩
 ·refine wpAny_passesOwn hp (bP (T.item X rfl rfl rfl hc i pins s3 σ3 H3 X.xe I3 (stat fr3) st3 go) fun r s4 ⟨u,hr,h4⟩=>?_)
  subst hr
  refine wpAny_passesOwn hp (bP h4 fun _ s5 ⟨x,H5,I5,r5,y5,st5,fr5⟩=>?_)
  have I5':=I5.pinned (stat fr5) (T.obj _ _ st5)
  refine wpAny_passesOwn hp (bP (hg _ s5 σ3 H5 x u _ I5' r5 (step x H5 y5)) fun _ s6 ⟨σ6,H6,I6,q6⟩=>?_)
  refine wpAny_passesOwn hp (bP (hb _ s6 σ6 H6 _ I6 q6) fun f s7 q7=>?_)
  have again:∀ {σ7:St} {H7:Hp},Inv X (pins++sW fp s5.heap) σ7 H7 s7->N σ7 H7->∃ m,m < n/\∃ i σ' H',Inv X pins σ' H' s7/\tn i s7.heap/\(∀ b∈fp,H' b=none)/\W i m σ' H':=fun {σ7 H7} I7 n7=>by
   obtain ⟨m',hm,w7⟩:=hN σ7 H7 n7
   refine ⟨m',hm,i + 1,σ7,H7,I7.unpinned,T.keep _ _ _ st5 fun b hb o e=>(I7.pin (b,o) (List.mem_append_right _ (List.mem_append_right _ (m6 hb e)))).1,fun b hb=>?_,w7⟩
   obtain ⟨o,e,d⟩:=T.obj _ _ st5 b hb
   exact (I7.pin (b,o) (List.mem_append_right _ (List.mem_append_right _ (m6 hb e)))).2.1
  cases f with
  | next=>obtain ⟨σ7,H7,I7,n7⟩:=q7;exact again I7 n7
  | cont=>obtain ⟨σ7,H7,I7,n7⟩:=q7;exact again I7 n7
  | brk=>obtain ⟨σ7,H7,I7,q7⟩:=q7;exact ⟨σ7,H7,I7.unpinned,q7⟩
  | ret v=>obtain ⟨x7,σ7,H7,I7,r7,q7⟩:=q7;exact ⟨x7,σ7,H7,I7.unpinned,r7,q7⟩
end
abbrev R2:=V->V->Hp->VK->Prop
def cV (X:Cx) (f:Value->Value->Sem Value) (r:R2):Prop :=
 ∀ (pins:List (Addr × Obj)) (s:Shared) (σ:St) (H:Hp) (x y:V) (v u:Value) (Q:VK),Inv X pins σ H s->RelV x v->RelV y u->r x y H Q ->
  wpAny (model X.prog X.w) X.A (f v u) (EP X pins σ Q) X.xe s
def U7 (X:Cx) (f:Value->Sem Value) (r:V->Hp->VK->Prop):Prop :=
 ∀ (pins:List (Addr × Obj)) (s:Shared) (σ:St) (H:Hp) (x:V) (v:Value) (Q:VK),Inv X pins σ H s->RelV x v->r x H Q ->
  wpAny (model X.prog X.w) X.A (f v) (EP X pins σ Q) X.xe s
def gW (X:Cx) (f:Value) (r:List V->Hp->VK->Prop):Prop :=
 ∀ (pins:List (Addr × Obj)) (s:Shared) (σ:St) (H:Hp) (xs:List V) (us:List Value) (Q:VK),Inv X pins σ H s->Vals xs us->r xs H Q ->
  wpAny (model X.prog X.w) X.A (call f us) (EP X pins σ Q) X.xe s
def Wx (X:Cx) (r:V->Hp->(Bool->Hp->Prop)->Prop):Prop :=
 ∀ (pins:List (Addr × Obj)) (s:Shared) (σ:St) (H:Hp) (x:V) (v:Value) (Q:Bool->Hp->Prop),Inv X pins σ H s->RelV x v->r x H Q ->
  wpAny (model X.prog X.w) X.A (truthy v) (TP X pins σ Q) X.xe s
def GG (r:R2) (ta tb:TE):TE:=fun σ H Q=>ta σ H fun x H1=>tb σ H1 fun y H2=>r x y H2 Q
def Ww (r:V->Hp->VK->Prop) (ta:TE):TE:=fun σ H Q=>ta σ H fun x H1=>r x H1 Q
def rI (C:Int->Int->Prop) (g:Int->Int->V):R2:=fun x y H Q=>∃ i j,x=.int i/\y=.int j/\C i j/\Q (g i j) H
def r9 (g:Int->Int->V):R2:=fun x y H Q=>∃ i j,x=.int i/\y=.int j/\Q (g i j) H
def rU (g:Int->V):V->Hp->VK->Prop:=fun x H Q=>∃ i,x=.int i/\Q (g i) H
section
variable {X:Cx} {a b c:Expr} {ta tb tc:TE} {pos:Pos}
theorem Kd (ha:PE X a ta) (hb:PE X b tb) {pins:List (Addr × Obj)} {s:Shared} {σ:St} {H:Hp} {R:V->V->Hp->Prop} (I:Inv X pins σ H s)
  (h:ta σ H fun x H1=>tb σ H1 fun y H2=>R x y H2) {Q:Value->Shared->Prop} {f:Value->Value->Sem Value}
  (hf:∀ v u s2 x y H2,Inv X pins σ H2 s2->RelV x v->RelV y u->R x y H2->wpAny (model X.prog X.w) X.A (f v u) Q X.xe s2) :
  wpAny (model X.prog X.w) X.A (eval a X.env) (fun v s₁=>wpAny (model X.prog X.w) X.A (eval b X.env) (fun u s₂=>wpAny (model X.prog X.w) X.A (f v u) Q X.xe s₂) X.xe s₁) X.xe s:=by
 refine bP (ha pins s σ H _ I h) fun v s1 ⟨x,H1,I1,r1,q1⟩=>?_
 refine bP (hb pins s1 σ H1 _ I1 q1) fun u s2 ⟨y,H2,I2,r2,q2⟩=>?_
 exact hf v u s2 x y H2 I2 r1 r2 q2
theorem VD {op:Operator} {r:R2} (ho:cV X (binaryOp op) r) (ha:PE X a ta) (hb:PE X b tb):PE X (.BinOp a op b pos) (GG r ta tb):=by
 intro pins s σ H Q I h
 exact wpAny_BinOp (Kd ha hb I h fun v u s2 x y H2 I2 rx ry q=>ho pins s2 σ H2 x y v u Q I2 rx ry q)
theorem Vw {op:UnaryOp} {r:V->Hp->VK->Prop} (ho:U7 X (unaryOp op) r) (ha:PE X a ta):PE X (.UnaryOp op a pos) (Ww r ta):=by
 intro pins s σ H Q I h
 exact UnaryOp_ (bP (ha pins s σ H _ I h) fun v s1 ⟨x,H1,I1,r1,q1⟩=>ho pins s1 σ H1 x v Q I1 r1 q1)
theorem P9 {f:Value->Value->Sem Value} {C:Int->Int->Prop} {g:Int->Int->Int}
  (rule:∀ (i j:Int) (t u:Tok) (s:Shared) (Q:Value->Shared->Prop) (E:Value->Shared->Prop),C i j->Q (.int (g i j) s.toks) { s with toks:=s.toks + 1 }->wpAny (model X.prog X.w) X.A (f (.int i t) (.int j u)) Q E s) :
  cV X f (rI C fun i j=>.int (g i j)):=by
 intro pins s σ H x y v u Q I rx ry h
 obtain ⟨i,j,rfl,rfl,hc,q⟩:=h
 obtain ⟨t,rfl⟩:=rx
 obtain ⟨t',rfl⟩:=ry
 exact rule i j t t' s _ _ hc ⟨.int (g i j),H,I.tok _,⟨_,rfl⟩,q⟩
theorem S8 {f:Value->Value->Sem Value} {g:Int->Int->Int}
  (rule:∀ (i j:Int) (t u:Tok) (s:Shared) (Q:Value->Shared->Prop) (E:Value->Shared->Prop),Q (.int (g i j) s.toks) { s with toks:=s.toks + 1 }->wpAny (model X.prog X.w) X.A (f (.int i t) (.int j u)) Q E s) :
  cV X f (r9 fun i j=>.int (g i j)):=by
 intro pins s σ H x y v u Q I rx ry h
 obtain ⟨i,j,rfl,rfl,q⟩:=h
 obtain ⟨t,rfl⟩:=rx
 obtain ⟨t',rfl⟩:=ry
 exact rule i j t t' s _ _ ⟨.int (g i j),H,I.tok _,⟨_,rfl⟩,q⟩
theorem JB {f:Value->Value->Sem Value} {g:Int->Int->Bool}
  (rule:∀ (i j:Int) (t u:Tok) (s:Shared) (Q:Value->Shared->Prop) (E:Value->Shared->Prop),Q (.bool (g i j)) s->wpAny (model X.prog X.w) X.A (f (.int i t) (.int j u)) Q E s) :
  cV X f (r9 fun i j=>.bl (g i j)):=by
 intro pins s σ H x y v u Q I rx ry h
 obtain ⟨i,j,rfl,rfl,q⟩:=h
 obtain ⟨t,rfl⟩:=rx
 obtain ⟨t',rfl⟩:=ry
 exact rule i j t t' s _ _ ⟨.bl (g i j),H,I,rfl,q⟩
def S9 (i j:Int):Prop:=0<=j/\j<=1000000/\i.natAbs < 2 ^ 64
def Oq (i j:Int):Prop:=(-(2 ^ 64) < i/\i < 2 ^ 64)\/(-(2 ^ 64) < j/\j < 2 ^ 64)
theorem Oq.ok {i j:Int} (h:Oq i j):IntMulOk i j:=by
 rcases h with ⟨h1,h2⟩ | ⟨h1,h2⟩
 ·exact .of_left (intBits_le_64 h1 h2)
 ·exact .of_right (intBits_le_64 h1 h2)
theorem Vx (k:Nat):(0:Int)<=2 ^ k:=by
 rw [two_pow_cast]
 exact Int.natCast_nonneg _
theorem Vc:cV X (binaryOp .Add) (r9 fun i j=>.int (i + j)):=S8 fun _ _ _ _ _ _ _ q=>add_int q
theorem Uq:cV X (binaryOp .Sub) (r9 fun i j=>.int (i - j)):=S8 fun _ _ _ _ _ _ _ q=>sub_int q
theorem SA:cV X (binaryOp .Mod) (rI (fun _ j=>0 < j) fun i j=>.int (i % j)):=P9 fun i j _ _ _ _ _ hc q=>by
 have h1:(0:Int) < j:=hc
 exact mod_int' (by omega) (by rw [Int.fmod_eq_emod_of_nonneg i (by omega)];exact q)
theorem SH:cV X (binaryOp .Pow) (rI S9 fun i j=>.int (i ^ j.toNat)):=P9 fun _ _ _ _ _ _ _ hc q=>pow_int_small hc.1 hc.2.1 hc.2.2 q
theorem WS {f:Value->Sem Value} {g:Int->Int}
  (rule:∀ (i:Int) (t:Tok) (s:Shared) (Q:Value->Shared->Prop) (E:Value->Shared->Prop),Q (.int (g i) s.toks) { s with toks:=s.toks + 1 }->wpAny (model X.prog X.w) X.A (f (.int i t)) Q E s) :
  U7 X f (rU fun i=>.int (g i)):=by
 intro pins s σ H x v Q I rx h
 obtain ⟨i,rfl,q⟩:=h
 obtain ⟨t,rfl⟩:=rx
 exact rule i t s _ _ ⟨.int (g i),H,I.tok _,⟨_,rfl⟩,q⟩
theorem UB:U7 X (unaryOp .USub) (rU fun i=>.int (-i)):=WS fun _ _ _ _ _ q=>neg_int q
end
def Hn:V->V->Bool
 | .non,.non=>true | .non,.int _=>true | .int _,.non=>true | .non,.bl _=>true | .bl _,.non=>true | .non,.str _=>true | .str _,.non=>true
 | .int _,.int _=>true | .bl _,.bl _=>true | .str _,.str _=>true | .byt _,.byt _=>true
 | .int _,.str _=>true | .str _,.int _=>true | .bl _,.str _=>true | .str _,.bl _=>true
 | _,_=>false
def WW:R2:=fun x y H Q=>Hn x y=true/\Q (.bl (decide (x=y))) H
def WT:R2:=fun x y H Q=>Hn x y=true/\Q (.bl (!decide (x=y))) H
theorem F4 {i j:Int}:decide (V.int i=V.int j)=(i == j):=by
 rw [Bool.eq_iff_iff]
 simp
theorem Np {i j:Bool}:decide (V.bl i=V.bl j)=(i == j):=by
 rw [Bool.eq_iff_iff]
 simp
theorem GX {i j:Str}:decide (V.str i=V.str j)=(i == j):=by
 rw [Bool.eq_iff_iff]
 simp
theorem Gd {i j:Array UInt8}:decide (V.byt i=V.byt j)=(i.toList == j.toList):=by
 rw [Bool.eq_iff_iff]
 cases i
 cases j
 simp
section
variable {X:Cx} {a b c:Expr} {ta tb tc:TE} {pos:Pos}
theorem b0 {pins:List (Addr × Obj)} {σ:St} {H:Hp} {s:Shared} {Q:VK} {k k':Bool} (I:Inv X pins σ H s) (q:Q (.bl k) H) (e:k=k'):EP X pins σ Q (.bool k') s:=by
 subst e
 exact ⟨.bl k,H,I,rfl,q⟩
theorem VW:cV X (compareOp .Eq) WW:=by
 intro pins s σ H x y v u Q I rx ry h
 obtain ⟨hs,q⟩:=h
 cases x with
 | non =>
  cases rx
  cases y with
  | non=>cases ry;exact PySem.EqNone.eq_none_none (b0 I q (by simp))
  | bl j=>cases ry;exact PySem.EqNone.eq_none_bool (b0 I q (by simp))
  | int j=>obtain ⟨t',rfl⟩:=ry;exact PySem.EqNone.eq_none_int (b0 I q (by simp))
  | str j=>obtain ⟨t',rfl⟩:=ry;exact PySem.EqNone.eq_none_str (b0 I q (by simp))
  | _=>exact absurd (show false=true from hs) Bool.false_ne_true
 | bl i =>
  cases rx
  cases y with
  | non=>cases ry;exact PySem.EqNone.eq_bool_none (b0 I q (by simp))
  | bl j=>cases ry;exact eq_bool (b0 I q Np)
  | str j=>obtain ⟨t',rfl⟩:=ry;exact PySem.EqMixed.eq_bool_str (b0 I q (by simp))
  | _=>exact absurd (show false=true from hs) Bool.false_ne_true
 | int i =>
  obtain ⟨t,rfl⟩:=rx
  cases y with
  | non=>cases ry;exact PySem.EqNone.eq_int_none (b0 I q (by simp))
  | int j=>obtain ⟨t',rfl⟩:=ry;exact eq_int (b0 I q F4)
  | str j=>obtain ⟨t',rfl⟩:=ry;exact PySem.EqMixed.eq_int_str (b0 I q (by simp))
  | _=>exact absurd (show false=true from hs) Bool.false_ne_true
 | str i =>
  obtain ⟨t,rfl⟩:=rx
  cases y with
  | non=>cases ry;exact PySem.EqNone.eq_str_none (b0 I q (by simp))
  | bl j=>cases ry;exact PySem.EqMixed.eq_str_bool (b0 I q (by simp))
  | int j=>obtain ⟨t',rfl⟩:=ry;exact PySem.EqMixed.eq_str_int (b0 I q (by simp))
  | str j=>obtain ⟨t',rfl⟩:=ry;exact eq_str (b0 I q GX)
  | _=>exact absurd (show false=true from hs) Bool.false_ne_true
 | byt i =>
  obtain ⟨t,rfl⟩:=rx
  cases y with
  | byt j=>obtain ⟨t',rfl⟩:=ry;exact PySem.W.eq_bytes (b0 I q Gd)
  | _=>exact absurd (show false=true from hs) Bool.false_ne_true
 | _=>cases y <;> exact absurd (show false=true from hs) Bool.false_ne_true
theorem VE:cV X (compareOp .NotEq) WT:=by
 intro pins s σ H x y v u Q I rx ry h
 obtain ⟨hs,q⟩:=h
 cases x with
 | non =>
  cases rx
  cases y with
  | non=>cases ry;exact PySem.EqNone.ne_none_none (b0 I q (by simp))
  | bl j=>cases ry;exact PySem.EqNone.ne_none_bool (b0 I q (by simp))
  | int j=>obtain ⟨t',rfl⟩:=ry;exact PySem.EqNone.ne_none_int (b0 I q (by simp))
  | str j=>obtain ⟨t',rfl⟩:=ry;exact PySem.EqNone.ne_none_str (b0 I q (by simp))
  | _=>exact absurd (show false=true from hs) Bool.false_ne_true
 | bl i =>
  cases rx
  cases y with
  | non=>cases ry;exact PySem.EqNone.ne_bool_none (b0 I q (by simp))
  | bl j=>cases ry;exact ne_bool (b0 I q (congrArg not Np))
  | str j=>obtain ⟨t',rfl⟩:=ry;exact PySem.EqMixed.ne_bool_str (b0 I q (by simp))
  | _=>exact absurd (show false=true from hs) Bool.false_ne_true
 | int i =>
  obtain ⟨t,rfl⟩:=rx
  cases y with
  | non=>cases ry;exact PySem.EqNone.ne_int_none (b0 I q (by simp))
  | int j=>obtain ⟨t',rfl⟩:=ry;exact ne_int (b0 I q (congrArg not F4))
  | str j=>obtain ⟨t',rfl⟩:=ry;exact PySem.EqMixed.ne_int_str (b0 I q (by simp))
  | _=>exact absurd (show false=true from hs) Bool.false_ne_true
 | str i =>
  obtain ⟨t,rfl⟩:=rx
  cases y with
  | non=>cases ry;exact PySem.EqNone.ne_str_none (b0 I q (by simp))
  | bl j=>cases ry;exact PySem.EqMixed.ne_str_bool (b0 I q (by simp))
  | int j=>obtain ⟨t',rfl⟩:=ry;exact PySem.EqMixed.ne_str_int (b0 I q (by simp))
  | str j=>obtain ⟨t',rfl⟩:=ry;exact ne_str (b0 I q (congrArg not GX))
  | _=>exact absurd (show false=true from hs) Bool.false_ne_true
 | byt i =>
  obtain ⟨t,rfl⟩:=rx
  cases y with
  | byt j=>obtain ⟨t',rfl⟩:=ry;exact PySem.W.ne_bytes (b0 I q (congrArg not Gd))
  | _=>exact absurd (show false=true from hs) Bool.false_ne_true
 | _=>cases y <;> exact absurd (show false=true from hs) Bool.false_ne_true
theorem VI:cV X (compareOp .Lt) (r9 fun i j=>.bl (decide (i < j))):=JB fun _ _ _ _ _ _ _ q=>lt_int q
theorem VA:cV X (compareOp .LtE) (r9 fun i j=>.bl (decide (i<=j))):=JB fun _ _ _ _ _ _ _ q=>le_int q
theorem V0:cV X (compareOp .Gt) (r9 fun i j=>.bl (decide (j < i))):=JB fun _ _ _ _ _ _ _ q=>gt_int q
theorem VX:cV X (compareOp .GtE) (r9 fun i j=>.bl (decide (j<=i))):=JB fun _ _ _ _ _ _ _ q=>ge_int q
theorem Nr:cV X (compareOp .In) (fun x y H Q=>∃ i j,x=.str i/\y=.str j/\Q (.bl (!(Builtin.Str.occurrences j i 0 j.length 1).isEmpty)) H):=by
 intro pins s σ H x y v u Q I rx ry h
 obtain ⟨i,j,rfl,rfl,q⟩:=h
 obtain ⟨t,rfl⟩:=rx
 obtain ⟨t',rfl⟩:=ry
 exact in_str (b0 I q rfl)
theorem Tn:cV X (compareOp .Is) (fun x y H Q=>y=.non/\Q (.bl (decide (x=.non))) H):=by
 intro pins s σ H x y v u Q I rx ry h
 obtain ⟨rfl,q⟩:=h
 cases ry
 refine is_none_gen (b0 I q ?_)
 cases x <;> first
  | (cases rx;rfl)
  | (obtain ⟨t,rfl⟩:=rx;rfl)
theorem cV.or {f:Value->Value->Sem Value} {r r':R2} (h:cV X f r) (h':cV X f r'):cV X f (fun x y H Q=>r x y H Q\/r' x y H Q):=by
 intro pins s σ H x y v u Q I rx ry q
 rcases q with q | q
 ·exact h pins s σ H x y v u Q I rx ry q
 ·exact h' pins s σ H x y v u Q I rx ry q
theorem LO (b:Expr) {op:CmpOp} (h:op≠.In:=by decide) (h2:op≠.NotIn:=by decide):behindInMarks op b=false:=by
 have e1:(op == CmpOp.In)=false:=by cases op <;> first | rfl | exact absurd rfl h
 have e2:(op == CmpOp.NotIn)=false:=by cases op <;> first | rfl | exact absurd rfl h2
 cases b <;> simp [behindInMarks,e1,e2]
theorem QI {op:CmpOp} {r:R2} (ho:cV X (compareOp op) r) (ha:PE X a ta) (hb:PE X b tb) (hm:behindInMarks op b=false):PE X (.Compare a [op] [b] pos) (GG r ta tb):=by
 intro pins s σ H Q I h
 exact wpAny_Compare1 (Kd ha hb I h fun v u s2 x y H2 I2 rx ry q=>ho pins s2 σ H2 x y v u Q I2 rx ry q) hm
def Jk (t:TE):TT:=fun σ H Q=>t σ H fun x H'=>∃ k,x=.bl k/\Q k H'
theorem Q0 {op:CmpOp} {r:R2} (ho:cV X (compareOp op) r) (ha:PE X a ta) (hb:PE X b tb) (hm:behindInMarks op b=false):PT X (.Compare a [op] [b] pos) (Jk (GG r ta tb)):=by
 intro pins s σ H Q I h
 refine wpAny_isTrue_Compare1 (bP (ha pins s σ H _ I h) fun v s1 ⟨x,H1,I1,r1,q1⟩=>bP (hb pins s1 σ H1 _ I1 q1) fun u s2 ⟨y,H2,I2,r2,q2⟩ =>
  bP (ho pins s2 σ H2 x y v u _ I2 r1 r2 q2) fun c s3 ⟨z,H3,I3,r3,k,e,q3⟩=>?_) hm
 subst e
 cases r3
 exact wpAny_truthy_bool ⟨H3,I3,q3⟩
def A8 (r r':R2) (ta tb tc:TE):TE:=fun σ H Q=>ta σ H fun x H1=>tb σ H1 fun y H2=>r x y H2 fun z H3=>∃ k,z=.bl k /\
 (if k=true then tc σ H3 fun w' H4=>r' y w' H4 Q else Q (.bl false) H3)
theorem N5 {op op':CmpOp} {r r':R2} (ho:cV X (compareOp op) r) (ho':cV X (compareOp op') r') (ha:PE X a ta) (hb:PE X b tb) (hc:PE X c tc)
  (hm:lastMarks [op,op'] [b,c]=false:=by with_unfolding_all rfl):PE X (.Compare a [op,op'] [b,c] pos) (A8 r r' ta tb tc):=by
 intro pins s σ H Q I h
 refine Compare_chain (bP (ha pins s σ H _ I h) fun v s1 ⟨x,H1,I1,r1,q1⟩=>chain_link (bP (hb pins s1 σ H1 _ I1 q1) fun u s2 ⟨y,H2,I2,r2,q2⟩ =>
  bP (ho pins s2 σ H2 x y v u _ I2 r1 r2 q2) fun d s3 ⟨z,H3,I3,r3,k,e,q3⟩=>?_)) hm
 subst e
 cases r3
 refine wpAny_truthy_bool ?_
 cases k with
 | false=>exact ite_ff ⟨.bl false,H3,I3,rfl,q3⟩
 | true=>exact ite_tt (chain_last (bP (hc pins s3 σ H3 _ I3 q3) fun w' s4 ⟨z',H4,I4,r4,q4⟩=>ho' pins s4 σ H4 y z' u w' Q I4 r2 r4 q4))
theorem Og {op op':CmpOp} {r r':R2} (ho:cV X (compareOp op) r) (ho':cV X (compareOp op') r') (ha:PE X a ta) (hb:PE X b tb) (hc:PE X c tc)
  (hm:lastMarks [op,op'] [b,c]=false:=by with_unfolding_all rfl):PT X (.Compare a [op,op'] [b,c] pos) (Jk (A8 r r' ta tb tc)):=by
 intro pins s σ H Q I h
 refine isTrue_chain (bP (ha pins s σ H _ I h) fun v s1 ⟨x,H1,I1,r1,q1⟩=>test_link (bP (hb pins s1 σ H1 _ I1 q1) fun u s2 ⟨y,H2,I2,r2,q2⟩ =>
  bP (ho pins s2 σ H2 x y v u _ I2 r1 r2 q2) fun d s3 ⟨z,H3,I3,r3,k,e,q3⟩=>?_)) hm
 subst e
 cases r3
 refine wpAny_truthy_bool ?_
 cases k with
 | false =>
  obtain ⟨k',e',q'⟩:=q3
  cases e'
  exact ite_ff ⟨H3,I3,q'⟩
 | true =>
  refine ite_tt (test_last (bP (hc pins s3 σ H3 _ I3 q3) fun w' s4 ⟨z',H4,I4,r4,q4⟩=>bP (ho' pins s4 σ H4 y z' u w' _ I4 r2 r4 q4) fun d' s5 ⟨z2,H5,I5,r5,k2,e2,q5⟩=>?_))
  subst e2
  cases r5
  exact wpAny_truthy_bool ⟨H5,I5,q5⟩
def Pe (K:PySem.W.Frag) (x:V) (H:Hp) (k:Bool):Prop :=
 match x with
 | .non=>k=false
 | .bl b=>k=b
 | .int i=>k=(i != 0)
 | .str y=>y.length<=sizeLine/\k=((y.length:Int) != 0)
 | .byt y=>y.size<=sizeLine/\k=((y.size:Int) != 0)
 | .ref p=>(∃ xs,dM K H p xs/\k=!xs.isEmpty)\/(∃ xs,fA K H p xs/\k=!xs.isEmpty)\/∃ kvs,H p=some (.dK kvs)/\k=!kvs.isEmpty
 | _=>False
theorem J6 {κ:Type} {kvs:List (κ × V)} {vs:List (κ × Value)} (r:KV kvs vs):(!vs.isEmpty)=!kvs.isEmpty:=by
 cases r <;> rfl
theorem wC {xs:List V} {its:List Value} (r:Vals xs its):(!its.toArray.isEmpty)=!xs.isEmpty:=by
 cases r <;> simp
theorem pX:(sizeLine:Nat) < 2 ^ 63:=by rw [sizeLine_eq];decide
theorem Vs:Wx X (fun x H Q=>∃ k,Pe X.K x H k/\Q k H):=by
 intro pins s σ H x v Q I rx h
 obtain ⟨k,e,q⟩:=h
 have hl:=pX
 have hs:sizeLine=16777216:=sizeLine_eq
 cases x with
 | non =>
  cases rx
  have e':k=false:=e
  subst e'
  exact truthy_none ⟨H,I,q⟩
 | bl b =>
  cases rx
  have e':k=b:=e
  subst e'
  exact wpAny_truthy_bool ⟨H,I,q⟩
 | int i =>
  obtain ⟨t,rfl⟩:=rx
  have e':k=(i != 0):=e
  subst e'
  exact PySem.P.truthy_int ⟨H,I,q⟩
 | str y =>
  obtain ⟨t,rfl⟩:=rx
  obtain ⟨hy,e'⟩:y.length<=sizeLine/\k=((y.length:Int) != 0):=e
  subst e'
  exact PySem.P.truthy_str (by omega) ⟨H,I.tok _,q⟩
 | byt y =>
  obtain ⟨t,rfl⟩:=rx
  obtain ⟨hy,e'⟩:y.size<=sizeLine/\k=((y.size:Int) != 0):=e
  subst e'
  exact PySem.W.truthy_bytes (by omega) ⟨H,I.tok _,q⟩
 | ref p =>
  cases rx
  have e':(∃ xs,dM X.K H p xs/\k=!xs.isEmpty)\/(∃ xs,fA X.K H p xs/\k=!xs.isEmpty)\/∃ kvs,H p=some (.dK kvs)/\k=!kvs.isEmpty:=e
  rcases e' with ⟨xs,hx,e'⟩ | ⟨xs,hx,e'⟩ | ⟨kvs,hx,e'⟩
  ·subst e'
   obtain ⟨its,r,pl,hz⟩:=I.list hx
   have hlen:=r.length
   exact wpAny_truthy_list pl.isList (by simp only [List.size_toArray];omega) ⟨H,I.tok _,by rw [wC r];exact q⟩
  ·subst e'
   obtain ⟨its,r,pl,hz⟩:=I.tuple hx
   have hlen:=r.length
   exact truthy_tuple pl (by simp only [List.size_toArray];omega) ⟨H,I.tok _,by rw [wC r];exact q⟩
  ·subst e'
   obtain ⟨hz,hS,vs,r,m⟩:kvs.length<=sizeLine/\(p == sysModules)=false/\∃ vs,KV kvs vs/\s.heap.DictOf (tW X.prog X.w) p vs:=I.hok p _ hx
   have hlen:kvs.length=vs.length:=Paired.length r
   exact wpAny_truthy_dict hS m (by omega) ⟨H,I.tok _,by rw [J6 r];exact q⟩
 | _=>exact (show False from e).elim
theorem O3 (ha:PE X a ta) (he:∀ whole,isTrue a X.env whole=(do let v <- whole;standAt a.pos;holding [v] (truthy v))) :
  PT X a (fun σ H Q=>ta σ H fun x H'=>∃ k,Pe X.K x H' k/\Q k H'):=by
 intro pins s σ H Q I h
 exact isTrue_plain (bP (ha pins s σ H _ I h) fun v s1 ⟨x,H1,I1,r1,q1⟩=>Vs pins s1 σ H1 x v Q I1 r1 q1) (he _)
theorem Jc:cV X (binaryOp .Add) (fun x y H Q=>∃ i j,x=.str i/\y=.str j/\i.length + j.length<=sizeLine/\Q (.str (i++j)) H):=by
 intro pins s σ H x y v u Q I rx ry h
 obtain ⟨i,j,rfl,rfl,hz,q⟩:=h
 obtain ⟨t,rfl⟩:=rx
 obtain ⟨t',rfl⟩:=ry
 exact add_str (fun t' tk=>⟨.str (i++j),H,I.tok _,⟨_,rfl⟩,q⟩) hz
theorem vals1 {x:V} {us:List Value} (r:Vals [x] us):∃ u,us=[u]/\RelV x u:=by
 cases r with
 | cons r1 r2=>cases r2;exact ⟨_,rfl,r1⟩
theorem vals2 {x y:V} {us:List Value} (r:Vals [x,y] us):∃ u w',us=[u,w']/\RelV x u/\RelV y w':=by
 cases r with
 | cons r1 r2 =>
  cases r2 with
  | cons r3 r4=>cases r4;exact ⟨_,_,rfl,r1,r3⟩
theorem ML (hc:X.calm=true):gW X (.builtin "max") (fun xs H Q=>∃ i j,xs=[.int i,.int j]/\Q (.int (if j > i then j else i)) H):=by
 intro pins s σ H xs us Q I r h
 obtain ⟨i,j,rfl,q⟩:=h
 obtain ⟨u,w',rfl,⟨t,rfl⟩,⟨t',rfl⟩⟩:=vals2 r
 refine max_two_ints (I.ok.hd hc) fun h' tk k=>⟨_,H,I.kept k,?_,q⟩
 by_cases hj:j > i
 ·rw [if_pos hj,if_pos hj];exact ⟨_,rfl⟩
 ·rw [if_neg hj,if_neg hj];exact ⟨_,rfl⟩
theorem Lc (hc:X.calm=true):gW X (.builtin "min") (fun xs H Q=>∃ i j,xs=[.int i,.int j]/\Q (.int (if j < i then j else i)) H):=by
 intro pins s σ H xs us Q I r h
 obtain ⟨i,j,rfl,q⟩:=h
 obtain ⟨u,w',rfl,⟨t,rfl⟩,⟨t',rfl⟩⟩:=vals2 r
 refine min_two_ints (I.ok.hd hc) fun h' tk k=>⟨_,H,I.kept k,?_,q⟩
 by_cases hj:j < i
 ·rw [if_pos hj,if_pos hj];exact ⟨_,rfl⟩
 ·rw [if_neg hj,if_neg hj];exact ⟨_,rfl⟩
def UR (K:PySem.W.Frag) (x:V) (H:Hp) (n:Nat):Prop :=
 match x with
 | .str y=>y.length<=sizeLine/\n=y.length
 | .byt y=>y.size<=sizeLine/\n=y.size
 | .ref p=>(∃ xs,dM K H p xs/\n=xs.length)\/∃ xs,fA K H p xs/\n=xs.length
 | _=>False
theorem OW:gW X (.builtin "len") (fun xs H Q=>∃ x n,xs=[x]/\UR X.K x H n/\Q (.int n) H):=by
 intro pins s σ H xs us Q I r h
 obtain ⟨x,n,rfl,e,q⟩:=h
 obtain ⟨u,rfl,rx⟩:=vals1 r
 have hl:=pX
 have hs:sizeLine=16777216:=sizeLine_eq
 cases x with
 | str y =>
  obtain ⟨t,rfl⟩:=rx
  obtain ⟨hy,e'⟩:y.length<=sizeLine/\n=y.length:=e
  subst e'
  exact len_str (by omega) ⟨.int _,H,I.tok _,⟨_,rfl⟩,q⟩
 | byt y =>
  obtain ⟨t,rfl⟩:=rx
  obtain ⟨hy,e'⟩:y.size<=sizeLine/\n=y.size:=e
  subst e'
  exact PySem.W.len_bytes (by omega) ⟨.int _,H,I.tok _,⟨_,rfl⟩,q⟩
 | ref p =>
  cases rx
  have e':(∃ xs,dM X.K H p xs/\n=xs.length)\/∃ xs,fA X.K H p xs/\n=xs.length:=e
  rcases e' with ⟨xs,hx,e'⟩ | ⟨xs,hx,e'⟩
  ·subst e'
   obtain ⟨its,r',pl,hz⟩:=I.list hx
   have hlen:=r'.length
   exact Calls.call_len_list pl.isList (by simp only [List.size_toArray];omega) ⟨.int xs.length,H,I.tok _,⟨_,by simp only [List.size_toArray];rw [hlen]⟩,q⟩
  ·subst e'
   obtain ⟨its,r',pl,hz⟩:=I.tuple hx
   have hlen:=r'.length
   exact len_tuple pl (by simp only [List.size_toArray];omega) ⟨.int xs.length,H,I.tok _,⟨_,by simp only [List.size_toArray];rw [hlen]⟩,q⟩
 | _=>exact (show False from e).elim
end
structure OB (h:Heap) (x dx C:Addr) (mA:Str->Option Value):Prop where
 obj:h.get? x=some (PySem.W.instObj C dx)
 ns:h.Ns1 dx mA
 ne:dx≠x
theorem Lv {h:Heap} {dx:Addr} {mA:Str->Option Value} (n:h.Ns1 dx mA):∃ od,h.get? dx=some od/\∀ name,PySem.W.lookIn name od=some (mA name):=by
 obtain ⟨o,es,ep,ho,hd,hk,_,hm⟩:=n
 refine ⟨o,ho,fun name=>?_⟩
 have e:=hm name
 unfold nsFind findBy at e
 rw [<- Array.find?_toList] at e
 unfold PySem.W.lookIn
 rw [hd]
 dsimp only
 split
 ·rename_i y q
  rw [q] at e
  exact congrArg some e
 ·rename_i q
  rw [q] at e
  have a:es.toList.any (·.refKey)=false:=by
   rw [List.any_eq_false]
   intro y hy
   obtain ⟨z,t,hkey⟩:=hk y (Array.mem_toList_iff.mp hy)
   simp [DictEntry.refKey,hkey]
  have a':¬ es.toList.any (·.refKey)=true:=by rw [a];exact Bool.false_ne_true
  rw [if_neg a']
  exact congrArg some e
theorem OB.look {h:Heap} {x dx C:Addr} {mA:Str->Option Value} (I:OB h x dx C mA):∃ od,PySem.W.InstAt h x (PySem.W.instObj C dx) C (some od)/\∀ name,PySem.W.lookIn name od=some (mA name) :=
 let ⟨od,ho,hl⟩:=Lv I.ns
 ⟨od,⟨I.obj,rfl,rfl,ho⟩,hl⟩
section
variable {prog:Program} {w:World} {A:Around} {E:Value->Shared->Prop} {s:Shared} {K:PySem.W.Frag} {x dx C f:Addr} {mA:Str->Option Value} {name:Str} {v:Value}
end
def bZ (f:Str) (v:V):List (Str × V)->List (Str × V)
 | []=>[(f,v)]
 | (g,x) :: r=>if g=f then (g,v) :: r else (g,x) :: bZ f v r
theorem ED (f g:Str) (v:V):∀ fs:List (Str × V),(bZ f v fs).lookup g=if g=f then some v else fs.lookup g
 | []=>by
  show List.lookup g [(f,v)]=_
  by_cases h:g=f
  ·have hb:(g == f)=true:=beq_iff_eq.mpr h
   simp only [List.lookup,hb,if_pos h]
  ·have hb:(g == f)=false:=beq_eq_false_iff_ne.mpr h
   simp only [List.lookup,hb,if_neg h]
 | (k,x) :: r=>by
  have ih:=ED f g v r
  rw [show bZ f v ((k,x) :: r)=(if k=f then (k,v) :: r else (k,x) :: bZ f v r) from rfl]
  by_cases hk:k=f
  ·rw [if_pos hk]
   by_cases h:g=k
   ·have hb:(g == k)=true:=beq_iff_eq.mpr h
    simp only [List.lookup,hb,if_pos (h.trans hk)]
   ·have hb:(g == k)=false:=beq_eq_false_iff_ne.mpr h
    simp only [List.lookup,hb,if_neg (fun e:g=f=>h (e.trans hk.symm))]
  ·rw [if_neg hk]
   by_cases h:g=k
   ·have hb:(g == k)=true:=beq_iff_eq.mpr h
    simp only [List.lookup,hb,if_neg (fun e:g=f=>hk (h.symm.trans e))]
   ·have hb:(g == k)=false:=beq_eq_false_iff_ne.mpr h
    simp only [List.lookup,hb]
    exact ih
section
variable {P:Program} {w:World} {H H':Hp} {h h':Heap} {a C dx:Addr} {fs fs':List (Str × V)}
theorem RA (hok:eE P w H h) (e:H a=some (.ins C dx fs)):∃ mA,OB h a dx C mA/\(∀ f,B7 (fs.lookup f) (mA f))/\PySem.Within mA (fs.map (·.1))/\fs.length<=1000/\H dx=some (.own a):=by
 obtain ⟨d,z,ne,ob,mA,n,r,q⟩:=(show dB P w H h a (.ins C dx fs) from hok a _ e)
 exact ⟨mA,⟨ob,n,ne⟩,r,q,z,d⟩
end
structure Uz (K:PySem.W.Frag) (C:Addr):Prop where
 pg:PySem.W.plainGet K C Str.empty=true
 hd:PySem.W.hasDictIn K C=true
 po:PySem.W.plainOver K C=true
 sa:PySem.W.findIn K (.ref C) "__setattr__"=some (some (.builtin "object.__setattr__"))
theorem Uz.get {K:PySem.W.Frag} {C:Addr} (c:Uz K C) (f:Str):PySem.W.plainGet K C f=true:=c.pg
def xT (K:PySem.W.Frag) (C:Addr) (f:Str):Prop:=PySem.W.findIn K (.ref C) f=some none
section
variable {X:Cx} {pins:List (Addr × Obj)} {σ:St} {H:Hp} {s:Shared} {a C dx:Addr} {fs:List (Str × V)} {f:Str} {v:V} {A:Around} {E:Value->Shared->Prop}
end
section
variable {X:Cx} {o e value:Expr} {f:Str} {pos pos' tpos:Pos} {ta tv:TE}
end
section
variable {X:Cx} {pins:List (Addr × Obj)} {σ:St} {H:Hp} {s:Shared} {A:Around} {E:Value->Shared->Prop} {Q:Value->Shared->Prop} {c:Value} {b:Bool}
inductive lX (K:PySem.W.Frag) (H:Hp):V->Value->Prop where
 | non:lX K H .non (.type "NoneType")
 | bl (x:Bool):lX K H (.bl x) (.type "bool")
 | int (i:Int):lX K H (.int i) (.type "int")
 | str (x:Str):lX K H (.str x) (.type "str")
 | flt (x:UInt64):lX K H (.flt x) (.type "float")
 | lst {a:Addr} {xs:List V} (e:H a=some (.lst xs)):lX K H (.ref a) (.type "list")
 | frz {a:Addr} {o:Obj} {xs:List V} (e:H a=some (.frz o (.lst xs))):lX K H (.ref a) (.type "list")
 | tup {a:Addr} {xs:List V} (e:H a=some (.tup xs)):lX K H (.ref a) (.type "tuple")
 | dK {a:Addr} {kvs:List (Key × V)} (e:H a=some (.dK kvs)):lX K H (.ref a) (.type "dict")
 | dT {a:Addr} {kvs:List (List Key × V)} (e:H a=some (.dT kvs)):lX K H (.ref a) (.type "dict")
 | ins {a C dx:Addr} {fs:List (Str × V)} (e:H a=some (.ins C dx fs)) (cl:Uz K C) (ha:PySem.W.findIn K (.ref C) "__class__"=some (some (.builtin "object.__class__")))
   (hn:PySem.W.specialIn K (.builtin "object.__class__") "__get__"=some (some (.builtin "getset_descriptor.__get__"))) (htk:PySem.W.takesIn K (.builtin "object.__class__")=some true)
   (hm:PySem.W.mroIn K C (.type "object")=some true):lX K H (.ref a) (.ref C)
theorem Mz {x:V} {u t:Value} (I:Inv X pins σ H s) (rx:RelV x u) (ty:lX X.K H x t) (e:PySem.W.kitOne X.K t c=some b) (h:∀ tk,Q (.bool b) { s with toks:=tk }) :
  wpAny (model X.prog X.w) A (call (.builtin "isinstance") [u,c]) Q E s:=by
 cases ty with
 | non=>cases (show u=Value.none from rx);exact PySem.W.kia_one PySem.W.kitx_none I.kIn True.intro e (fun z=>nomatch z) h
 | bl y=>cases (show u=Value.bool y from rx);exact PySem.W.kia_one PySem.W.kitx_bool I.kIn True.intro e (fun z=>nomatch z) h
 | int i=>obtain ⟨t,q⟩:=(show ∃ t,u=Value.int i t from rx);cases q;exact PySem.W.kia_one PySem.W.kitx_int I.kIn True.intro e (fun z=>nomatch z) h
 | str y=>obtain ⟨t,q⟩:=(show ∃ t,u=Value.str y t from rx);cases q;exact PySem.W.kia_one PySem.W.kitx_str I.kIn True.intro e (fun z=>nomatch z) h
 | flt y=>obtain ⟨t,q⟩:=(show ∃ t,u=Value.float y t from rx);cases q;exact PySem.W.kia_one PySem.W.kitx_float I.kIn True.intro e (fun z=>nomatch z) h
 | @lst a xs ea =>
  cases (show u=Value.ref a from rx)
  obtain ⟨_,_,n,_,h1⟩:=(show dB X.prog X.w H s.heap a (.lst xs) from I.hok a _ ea)
  exact PySem.W.kia_one PySem.W.kitx_list I.kIn ⟨_,h1,rfl⟩ e (fun z=>nomatch z) h
 | @frz a ob xs ea =>
  cases (show u=Value.ref a from rx)
  obtain ⟨_,_,_,n,_,h1⟩:=(show dB X.prog X.w H s.heap a (.frz ob (.lst xs)) from I.hok a _ ea)
  exact PySem.W.kia_one PySem.W.kitx_list I.kIn ⟨_,h1,rfl⟩ e (fun z=>nomatch z) h
 | @tup a xs ea =>
  cases (show u=Value.ref a from rx)
  obtain ⟨_,_,_,p⟩:=(show dB X.prog X.w H s.heap a (.tup xs) from I.hok a _ ea)
  obtain ⟨o,h1,h2,_⟩:=p
  exact PySem.W.kia_one PySem.W.kitx_tuple I.kIn ⟨o,h1,h2⟩ e (fun z=>nomatch z) h
 | @dK a kvs ea =>
  cases (show u=Value.ref a from rx)
  obtain ⟨_,_,vs,_,p⟩:=(show dB X.prog X.w H s.heap a (.dK kvs) from I.hok a _ ea)
  obtain ⟨o,es,ep,h1,h2,_⟩:=p
  exact PySem.W.kia_one PySem.W.kitx_dict I.kIn ⟨o,h1,h2.1⟩ e (fun z=>nomatch z) h
 | @dT a kvs ea =>
  cases (show u=Value.ref a from rx)
  obtain ⟨_,_,xs,_,o,es,ep,h1,h2,_⟩:=(show dB X.prog X.w H s.heap a (.dT kvs) from I.hok a _ ea)
  exact PySem.W.kia_one PySem.W.kitx_dict I.kIn ⟨o,h1,h2.1⟩ e (fun z=>nomatch z) h
 | @ins a C dx fs ea cl ha hn htk hm =>
  cases (show u=Value.ref a from rx)
  obtain ⟨mA,O,_⟩:=RA I.hok ea
  obtain ⟨od,J,_⟩:=O.look
  exact PySem.W.kia_one (PySem.W.kitx_own (cl.get _) cl.hd ha hn htk hm) I.kIn J e (fun z=>nomatch z) h
end
structure cS (k:Nat) (A:Around):Prop where
 hd:A.handled=none
 dp:A.depth + 3 * k + 5 < recursionLimit
 un:A.units + 16 * k + 200 < cLine
theorem cS.mono {j k:Nat} {A:Around} (r:cS k A) (h:j<=k):cS j A:=⟨r.hd,by have:=r.dp;omega,by have:=r.un;omega⟩
theorem cS.deeper {k:Nat} {A:Around} (r:cS (k + 1) A) (env:Env):cS k (A.deeper env) :=
 ⟨r.hd,by have:=r.dp;show A.depth + 1 + 3 * k + 5 < _;omega,by have:=r.un;show A.units + 3 + 16 * k + 200 < _;omega⟩
theorem Jx {A:Around} {C:Addr} {us:List Value} {kw:List (Str × Value)}:(A.under (.builtin "type.__call__" ⟨.ref C :: us,kw⟩)).depth=A.depth + 1:=by
 first | rfl | simp [Around.under,Code.weight,Code.isCreation,Code.isGuard,Code.isCaller,Code.frames,Code.isFrame,guardIds]
theorem Jl {A:Around} {C:Addr} {us:List Value} {kw:List (Str × Value)}:(A.under (.builtin "type.__call__" ⟨.ref C :: us,kw⟩)).units=A.units + 1:=by
 first | rfl | simp [Around.under,Code.cUnits,Code.frames,Code.isFrame]
theorem cS.make {k:Nat} {A:Around} (r:cS (k + 1) A) (C:Addr) (us:List Value) (kw:List (Str × Value)):cS k (A.under (.builtin "type.__call__" ⟨.ref C :: us,kw⟩)) :=
 ⟨r.hd,by have:=r.dp;rw [Jx];omega,by have:=r.un;rw [Jl];omega⟩
theorem cS.depth {k:Nat} {A:Around} (r:cS k A):A.depth < recursionLimit:=by have:=r.dp;omega
theorem cS.units {k:Nat} {A:Around} (r:cS k A):A.units + 64 < cLine:=by have:=r.un;omega
theorem cS.units0 {k:Nat} {A:Around} (r:cS k A):A.units < cLine:=by have:=r.un;omega
def UY:TA:=fun _ H Q=>Q [] H
def PY (ta:TE) (tr:TA):TA:=fun σ H Q=>ta σ H fun x H1=>tr σ H1 fun xs H2=>Q (x :: xs) H2
section
variable {X:Cx} {e:Expr} {es:List Expr} {te:TE} {t:TA} {pos:Pos}
theorem xS:PA X [] UY:=fun _ _ _ _ H Q I h=>Calls.spliced_nil ⟨[],H,I,.nil,h⟩
theorem pT (ha:PE X e te) (hr:PA X es t) (hs:starEach (e :: es) X.env=(false,eval e X.env) :: starEach es X.env:=by rfl):PA X (e :: es) (PY te t):=by
 intro pos pins s σ H Q I h
 rw [hs]
 show wpAny _ _ (spliced ((false,eval e X.env) :: backTo pos (starEach es X.env))) _ _ s
 refine Calls.spliced_cons (bP (ha pins s σ H _ I h) fun u s1 ⟨x,H1,I1,r1,q1⟩=>?_)
 exact bP (hr pos pins s1 σ H1 _ I1 q1) fun us s2 ⟨xs,H2,I2,r2,q2⟩=>⟨x :: xs,H2,I2,.cons r1 r2,q2⟩
def Vg (t:TA):TE:=fun σ H Q=>t σ H fun xs H1=>xs.length<=sizeLine/\∀ p,H1 p=none->Q (.ref p) (upd H1 p (.tup xs))
def Vj (t:TA):TE:=fun σ H Q=>t σ H fun xs H1=>xs.length<=sizeLine/\∀ p,H1 p=none->Q (.ref p) (upd H1 p (.lst xs))
theorem Le {x1} (h:PA X es t):PE X (.Tuple es x1 pos) (Vg t):=by
 intro pins s σ H Q I hq
 refine wpAny_Tuple_spliced (bP (h pos pins s σ H _ I hq) fun us s1 ⟨xs,H1,I1,r,z,q⟩=>⟨by rw [<- r.length];exact z,?_⟩)
 have hf:H1 s1.heap.objs.size=none:=I1.hok.fresh (Nat.le_refl _)
 refine ⟨.ref s1.heap.objs.size,upd H1 s1.heap.objs.size (.tup xs),I1.laid (t':=s1.toks) (fun b u e=>Heap.get?_push_of_some _ e) (Nat.le_refl _) ?_,rfl,q _ hf⟩
 exact ⟨z,us,r,⟨_,Heap.get?_push_size _ rfl,rfl,rfl,_,rfl⟩⟩
theorem MS (h:PA X es t):PE X (.List es pos) (Vj t):=by
 intro pins s σ H Q I hq
 refine wpAny_List_spliced (bP (h pos pins s σ H _ I hq) fun us s1 ⟨xs,H1,I1,r,z,q⟩=>⟨by rw [<- r.length];exact z,?_⟩)
 have hf:H1 s1.heap.objs.size=none:=I1.hok.fresh (Nat.le_refl _)
 refine ⟨.ref s1.heap.objs.size,upd H1 s1.heap.objs.size (.lst xs),I1.laid (t':=s1.toks) (fun b u e=>Heap.get?_push_of_some _ e) (Nat.le_refl _) ?_,rfl,q _ hf⟩
 exact ⟨z,us,0,r,Heap.get?_push_size _ rfl⟩
end
abbrev Sp:=List V->Hp->VK->XK->Prop
abbrev sA:=List Env->Hp->Shared->XK->Value->Shared->Prop
structure vW (P:Program) (w:World) (K:PySem.W.Frag) (mg:Str->Option Value) (base:Heap) (A:Around) (outer:List Env) (s:Shared) (H:Hp):Prop where
 frames:A.frames=some outer
 mod:Mod K mg base
 bs:∀ b o,base.get? b=some o->s.heap.get? b=some o/\H b=none
 bsz:base.objs.size<=s.heap.objs.size
 funs:s.heap.FunFrames base outer
 frf:∀ b∈lI outer,H b=none
 hok:eE P w H s.heap
 bare:AllBare s.gens
def CE (outer:List Env) (P:Program) (w:World) (H:Hp) (s:Shared) (Q:VK) (u:Value) (s':Shared):Prop :=
 ∃ v H',s'.os=s.os/\AllBare s'.gens/\Un (lI outer) [] H H' s.heap s'.heap/\eE P w H' s'.heap/\RelV v u/\Q v H'
def CR (CX:sA) (outer:List Env) (P:Program) (w:World) (H:Hp) (s:Shared) (Q:VK) (E:XK) (r:Result) (s':Shared):Prop :=
 match r with
 | .ok (.ret u)=>CE outer P w H s Q u s'
 | .ok _=>False
 | .error e=>CX outer H s E e s'
structure dX (P:Program) (w:World) (K:PySem.W.Frag) (mg:Str->Option Value) (base:Heap) (CX:sA) (k:Nat) (f:Addr) (fd:FuncData) (ps:List Str) (sp:Sp):Prop where
 len:∀ vs H Q E,sp vs H Q E->vs.length=ps.length
 run:∀ (A:Around) (outer:List Env) (s:Shared) (H:Hp) (args:Args) (us:List Value) (vs:List V) (Q:VK) (E:XK),cS k A->vW P w K mg base A outer s H->BindsTo s fd args (ps.zip us)->Vals vs us->sp vs H Q E ->
  codeAny (model P w) A (.call (.ref f) args) (CR CX outer P w H s Q E) s
theorem vW.make {P:Program} {w:World} {K:PySem.W.Frag} {mg:Str->Option Value} {base:Heap} {A:Around} {outer:List Env} {s:Shared} {H:Hp} (e:vW P w K mg base A outer s H) (C:Addr) (us:List Value) (kw:List (Str × Value)) :
  vW P w K mg base (A.under (.builtin "type.__call__" ⟨.ref C :: us,kw⟩)) outer s H:=⟨by first | exact e.frames | (simpa [Around.under,Code.envs,Code.isFrame,pushEnvs] using e.frames),e.mod,e.bs,e.bsz,e.funs,e.frf,e.hok,e.bare⟩
section
variable {X:Cx} {pins:List (Addr × Obj)} {σ:St} {H:Hp} {s s':Shared}
theorem Inv.env0 (I:Inv X pins σ H s):vW X.prog X.w X.K X.mg X.base X.A X.stack s H :=
 ⟨I.ok.frames,I.ok.mod,I.bs,Nat.le_trans I.ok.bsz I.sz,I.stack,I.stkFree,I.hok,I.bare⟩
theorem Inv.after {Q:VK} {u:Value} (I:Inv X pins σ H s) (h:CE X.stack X.prog X.w H s Q u s'):EP X pins σ Q u s':=by
 obtain ⟨v,H',os,bare,un,hok,r,q⟩:=h
 obtain ⟨hh,g,d,t,os'⟩:=s'
 obtain rfl:os'=s.os:=os
 exact ⟨v,H',I.call (h':=hh) (g':=g) (d':=d) (t':=t) (ch:=[]) un hok bare (fun b z=>absurd z (by simp)),r,q⟩
end
def HN (sp:Sp) (dvs:List V) (E:XK) (t:TA):TE:=fun σ H Q=>t σ H fun vs H1=>sp (vs++dvs) H1 Q E
def Binds (K:PySem.W.Frag) (fd:FuncData) (ps:List Str) (ds:List Value):Prop :=
 ∀ (s:Shared) (us:List Value),K.In s.heap->(us++ds).length=ps.length->BindsTo s fd ⟨us,[]⟩ (ps.zip (us++ds))
theorem Binds.all {K:PySem.W.Frag} {fd:FuncData} {ps:List Str} (h:∀ us:List Value,us.length=ps.length->bindArgs fd ⟨us,[]⟩=pure (ps.zip us)):Binds K fd ps []:=fun s us _ hl=>by
 rw [List.append_nil] at hl ⊢
 exact .of_eq (h us hl)
def Passes (CX:sA) (X:Cx) (E:XK):Prop:=∀ (pins:List (Addr × Obj)) (σ:St) (H:Hp) (s:Shared) (e:Value) (s':Shared),Inv X pins σ H s->CX X.stack H s E e s'->X.xe e s'
section
variable {X:Cx} {CX:sA} {k:Nat} {f C:Addr} {fd:FuncData} {ps:List Str} {sp:Sp} {dvs:List V} {ds:List Value} {E:XK} {x m:Str} {p pos apos:Pos} {e o:Expr} {es:List Expr} {ta:TE} {t:TA}
theorem LX {pins:List (Addr × Obj)} {σ:St} {H:Hp} {s:Shared} {Q:VK} {us:List Value} {vs:List V} (F:dX X.prog X.w X.K X.mg X.base CX k f fd ps sp) (hr:cS k X.A) (hb:Binds X.K fd ps ds) (hd:Vals dvs ds) (hx:Passes CX X E)
  (I:Inv X pins σ H s) (r:Vals vs us) (h:sp (vs++dvs) H Q E):wpAny (model X.prog X.w) X.A (call (.ref f) us) (EP X pins σ Q) X.xe s:=by
 have r2:Vals (vs++dvs) (us++ds):=r.append hd
 have hl:(us++ds).length=ps.length:=by rw [<- r2.length];exact F.len _ _ _ _ h
 refine wpAny_call (codeAny_mono (F.run X.A X.stack s H ⟨us,[]⟩ (us++ds) (vs++dvs) Q E hr I.env0 (hb s us I.kIn hl) r2 h) fun r s' hq=>?_)
 cases r with
 | error e=>exact hx pins σ H s e s' I hq
 | ok fl =>
  cases fl with
  | ret u=>exact I.after hq
  | next=>exact False.elim hq
  | brk=>exact False.elim hq
  | cont=>exact False.elim hq
theorem Rk (F:dX X.prog X.w X.K X.mg X.base CX k f fd ps sp) (hr:cS k X.A) (hg:Gl X x) (hm:X.mg x=some (.ref f)) (hk:PySem.W.keepIn X.K (.ref f)=true) (hb:Binds X.K fd ps ds) (hd:Vals dvs ds) (hx:Passes CX X E)
  (ha:PA X (e :: es) t) (hdb:(x == ("__debug__":Str))=false:=by decide) (he:starEach (e :: es) X.env=(false,eval e X.env) :: starEach es X.env:=by rfl) (hpl:(backTo pos (starEach es X.env)).any (·.1)=false:=by rfl) :
  PE X (.Call (.Name x p) (e :: es) [] pos) (HN sp dvs E t):=by
 intro pins s σ H Q I h
 refine wpAny_Call_Name_kw (nG I hg hm ?_ hdb)
 refine PySem.W.callWith_K (h₀:=X.base) I.ok.mod.kin hk (bP (ha pos pins s σ H _ I h) fun us s1 ⟨vs,H1,I1,r,q⟩=>⟨I1.kIn,?_⟩) he hpl
 exact LX F hr hb hd hx I1 r q
end
section
variable {X:Cx} {CX:sA} {k:Nat} {f C:Addr} {fd:FuncData} {ps ks:List Str} {sp:Sp} {E:XK} {x m:Str} {p pos apos kpos:Pos} {e o:Expr} {es:List Expr} {kws:List Keyword} {te ta:TE} {t tk:TA} {nm:Option Str}
variable {g:List Value->List Value->List Value} {gV:List V->List V->List V}
end
structure bB (N P:List Str) (sc:Scope):Prop where
 kind:sc.kind=.function
 co:sc.isCoroutine=false
 gen:sc.isGenerator=false
 nd:N.Nodup
 pre:N.take P.length=P
 par:∀ x∈P,sc.names.lookup x=some .local\/sc.names.lookup x=some .cell
 nofree:∀ y∈sc.names,y.2≠.free
theorem zV {kindOf:Str->Option NameKind} {x:Str}:∀ {binds:List (Str × Value)} {m:Str->Option Value},(∀ v,(x,v) ∉ binds)->bindL kindOf binds m x=m x
 | [],_,_=>rfl
 | (n,v) :: r,m,h=>by
  unfold bindL
  rw [zV fun w hw=>h w (List.mem_cons_of_mem _ hw)]
  split
  ·have:x≠n:=by rintro rfl;exact h v List.mem_cons_self
   simp [this]
  ·rfl
theorem zQ {kindOf:Str->Option NameKind} {x:Str}:∀ {binds:List (Str × Value)} {m:Str->Option Value},(∀ v,(x,v) ∉ binds)->bindC kindOf binds m x=m x
 | [],_,_=>rfl
 | (n,v) :: r,m,h=>by
  unfold bindC
  rw [zQ fun w hw=>h w (List.mem_cons_of_mem _ hw)]
  split
  ·rfl
  ·have:x≠n:=by rintro rfl;exact h v List.mem_cons_self
   simp [this]
theorem zY {kindOf:Str->Option NameKind} {x:Str} {v:Value}:∀ {P:List Str} {vs:List Value} {i:Nat} {m:Str->Option Value},P.Nodup->P[i]?=some x->vs[i]?=some v->kindOf x=some .local ->
  bindL kindOf (P.zip vs) m x=some v
 | [],_,_,_,_,h,_,_=>by simp at h
 | _ :: _,[],_,_,_,_,h,_=>by simp at h
 | p :: P,w :: vs,0,m,nd,h1,h2,hk=>by
  simp at h1 h2;subst h1;subst h2
  show bindL kindOf ((p,w) :: P.zip vs) m p=_
  unfold bindL
  rw [zV fun v hv=>(List.nodup_cons.mp nd).1 (List.of_mem_zip hv).1,if_pos hk]
  simp
 | p :: P,w :: vs,i + 1,m,nd,h1,h2,hk=>by
  show bindL kindOf ((p,w) :: P.zip vs) m x=_
  unfold bindL
  exact zY (i:=i) (List.nodup_cons.mp nd).2 (by simpa using h1) (by simpa using h2) hk
theorem zG {kindOf:Str->Option NameKind} {x:Str} {v:Value}:∀ {P:List Str} {vs:List Value} {i:Nat} {m:Str->Option Value},P.Nodup->P[i]?=some x->vs[i]?=some v->kindOf x≠some .local ->
  bindC kindOf (P.zip vs) m x=some v
 | [],_,_,_,_,h,_,_=>by simp at h
 | _ :: _,[],_,_,_,_,h,_=>by simp at h
 | p :: P,w :: vs,0,m,nd,h1,h2,hk=>by
  simp at h1 h2;subst h1;subst h2
  show bindC kindOf ((p,w) :: P.zip vs) m p=_
  unfold bindC
  rw [zQ fun v hv=>(List.nodup_cons.mp nd).1 (List.of_mem_zip hv).1,if_neg hk]
  simp
 | p :: P,w :: vs,i + 1,m,nd,h1,h2,hk=>by
  show bindC kindOf ((p,w) :: P.zip vs) m x=_
  unfold bindC
  exact zG (i:=i) (List.nodup_cons.mp nd).2 (by simpa using h1) (by simpa using h2) hk
def start (N:List Str) (vs:List V):St:=vs.map some++List.replicate (N.length - vs.length) none
def mY (CX:sA) (P:Program) (w:World) (K:PySem.W.Frag) (mg:Str->Option Value) (base:Heap) (N:List Str) (qual:Str) (scope:Scope) (f:Addr) (cd:Value) (A:Around) (outer:List Env) (s:Shared) (H:Hp) (E:XK):Cx where
 prog:=P
 w:=w
 K:=K
 mg:=mg
 base:=base
 A:=A.deeper (envOfC qual scope s.heap.objs.size f cd)
 N:=N
 s₀:=s
 H₀:=H
 env:=envOfC qual scope s.heap.objs.size f cd
 outer:=outer
 stack:=envOfC qual scope s.heap.objs.size f cd :: outer
 ex:=[]
 calm:=true
 fn:=fun _=>true
 pn:=[]
 xe:=fun e s'=>wpAny (model P w) (A.deeper (envOfC qual scope s.heap.objs.size f cd)) (leaving (envOfC qual scope s.heap.objs.size f cd) e) (fun _ s''=>CX outer H s E e s'') (fun e' s''=>CX outer H s E e' s'') s'
theorem Cg {sc:Scope} {n:Nat} {x:Str} (h:sc.names.lookup x=some .cell):∃ c,(cellsFrom n sc.names []).lookup x=some c:=by
 have q:=PySem.W.cellsFrom_some sc.names n [] (.inl h)
 exact Option.isSome_iff_exists.mp q
theorem zM {CX:sA} {P:Program} {w:World} {K:PySem.W.Frag} {mg:Str->Option Value} {base:Heap} {N ps:List Str} {qual:Str} {scope:Scope} {f:Addr} {cd:Value} {A:Around} {outer:List Env} {s s1:Shared} {H:Hp} {E:XK} {us:List Value} {vs:List V}
  (S:bB N ps scope) (hd:A.handled=none) (e0:vW P w K mg base A outer s H) (hl:vs.length=ps.length) (r:Vals vs us)
  (x:InCallC s s.heap.objs.size (bindL (envOfC qual scope s.heap.objs.size f cd).kindOf (ps.zip us) fun _=>none) (cellsFrom (s.heap.objs.size + 1) scope.names []) (bindC (envOfC qual scope s.heap.objs.size f cd).kindOf (ps.zip us) fun _=>none) s1) :
  Inv (mY CX P w K mg base N qual scope f cd A outer s H E) [] (start N vs) H s1:=by
 have hpl:ps.length<=N.length:=by have:=congrArg List.length S.pre;rw [List.length_take] at this;omega
 obtain ⟨h1,tk,rfl,hk⟩:=x.done
 have noA:∀ b:Addr,b ∉ (mY CX P w K mg base N qual scope f cd A outer s H E).ex:=fun b z=>absurd (show b∈([]:List Addr) from z) (by simp)
 refine ⟨⟨e0.mod,S.kind,rfl,rfl,Nat.le_refl _,fun y z c h1 h2=>?_,fun y hy=>?_,fun y c _ h=>?_,fun _=>hd,Around.frames_deeper e0.frames,.inr ⟨rfl,rfl⟩,fun b z=>absurd z (noA b),e0.bs,e0.bsz,fun b _ _=>noA b,fun b z=>absurd z (noA b),e0.funs,e0.frf⟩,
  rfl,e0.bare,Un.kept hk,⟨_,x.toInCall.ns,fun i y v h1 h2 h3=>?_⟩,fun y c h=>⟨_,x.cell y c h⟩,e0.hok.fresh (Nat.le_refl _),fun y c h=>?_,fun p hp=>absurd (show p∈([]:List (Addr × Obj)) from hp) (by simp),e0.hok.kept hk,?_⟩
 ·exact name_of_addr x.apart (PySem.mem_of_lookup h1) (PySem.mem_of_lookup h2)
 ·have hy:scope.names.lookup y=some .cell\/scope.names.lookup y=some .free:=hy
  rcases hy with hy | hy
  ·exact Cg hy
  ·exact absurd rfl (S.nofree _ (PySem.mem_of_lookup hy))
 ·exact Nat.le_of_lt (x.above y c (PySem.mem_of_lookup h))
 ·have hi:i < vs.length:=by
   unfold start at h2
   by_cases hi:i < vs.length
   ·exact hi
   ·rw [List.getElem?_append_right (by simpa using hi)] at h2
    rw [List.getElem?_replicate] at h2
    split at h2 <;> cases h2
  have ha:vs[i]?=some v:=by
   unfold start at h2
   rw [List.getElem?_append_left (by simpa using hi),List.getElem?_map] at h2
   cases e:vs[i]? with
   | none=>rw [e] at h2;cases h2
   | some a=>rw [e] at h2;cases h2;rfl
  obtain ⟨u,hu,rv⟩:=r.get ha
  have hp:ps[i]?=some y:=by
   rw [<- S.pre,List.getElem?_take_of_lt (by omega)];exact h1
  have ndP:ps.Nodup:=by rw [<- S.pre];exact S.nd.sublist (List.take_sublist _ _)
  refine ⟨u,rv,?_⟩
  rcases S.par y (List.mem_of_getElem? hp) with k | k
  ·exact .inl ⟨k,zY ndP hp hu k⟩
  ·obtain ⟨c,e⟩:=Cg (n:=s.heap.objs.size + 1) k
   refine .inr ⟨.inl k,c,e,?_⟩
   have q:=x.cell y c e
   rw [zG ndP hp hu (by show scope.names.lookup y≠_;rw [k];decide)] at q
   exact q
 ·exact e0.hok.fresh (Nat.le_of_lt (x.above y c (PySem.mem_of_lookup h)))
 ·unfold start
  show _=N.length
  rw [List.length_append,List.length_map,List.length_replicate]
  omega
theorem VF {CX:sA} {P:Program} {w:World} {K:PySem.W.Frag} {mg:Str->Option Value} {base:Heap} {k:Nat} {f:Addr} {name qual:Str} {params:Arguments} {body:List Stmt} {scope:Scope} {dV kV doc pm cdv ct oc:Value} {an od:Option Addr}
  {osl:Array (Option Value)} {N ps:List Str} {sp:Sp} (lk:K.lookup f=some ⟨oc,od,.func (PySem.W.fnOf name qual params body scope dV kV doc pm an cdv ct),osl⟩) (hcd:PySem.W.codeIn K cdv qual=true) (S:bB N ps scope)
  (len:∀ vs H Q E,sp vs H Q E->vs.length=ps.length)
  (hbody:∀ (A:Around) (outer:List Env) (s:Shared) (H:Hp) (vs:List V) (Q:VK) (E:XK),cS k (A.deeper (envOfC qual scope s.heap.objs.size f cdv))->sp vs H Q E ->
   ∃ t,mL (mY CX P w K mg base N qual scope f cdv A outer s H E) body t/\t { nx:=fun _ H'=>Q .non H',rt:=Q } (start N vs) H) :
  dX P w K mg base CX (k + 1) f (PySem.W.fnOf name qual params body scope dV kV doc pm an cdv ct) ps sp:=by
 refine ⟨len,fun A outer s H args us vs Q E hr e0 hb r hsp=>?_⟩
 have hl:=len _ _ _ _ hsp
 have KX:K.In s.heap:=e0.mod.kin.keeps fun b o e=>(e0.bs b o e).1
 have lim:s.heap.NoLimit:=e0.mod.nolimit.keeps fun b o e=>(e0.bs b o e).1
 have hkind:∀ y∈ps.zip us,scope.names.lookup y.1=some .local\/(scope.names.lookup y.1=some .cell/\((cellsFrom (s.heap.objs.size + 1) scope.names []).lookup y.1).isSome=true):=fun ⟨n,v⟩ hy=>by
  rcases S.par n (List.of_mem_zip hy).1 with q | q
  ·exact .inl q
  ·exact .inr ⟨q,PySem.W.cellsFrom_some _ _ _ (.inl q)⟩
 refine codeAny_call_function hr.depth (KX _ _ lk) rfl S.co S.gen rfl (PySem.W.codeRec_of KX hcd) (hb _ _ _ _ ?_)
 refine wpAny_newFunctionEnv_cells S.kind hkind fun env he s1 x=>?_
 subst he
 refine ⟨lim.keeps x.toInCall.keep,codeAny_func ?_⟩
 obtain ⟨t,ht,hq⟩:=hbody A outer s H vs Q E (hr.deeper _) hsp
 have I:Inv (mY CX P w K mg base N qual scope f cdv A outer s H E) [] (start N vs) H s1:=zM S hr.hd e0 hl r x
 refine wpAny_mono (ht [] s1 (start N vs) H _ I hq) (fun fl s' hs=>?_) fun e s' hs=>hs
 have fin:∀ {σ':St} {H':Hp} {v:V} {u:Value},Inv (mY CX P w K mg base N qual scope f cdv A outer s H E) [] σ' H' s'->RelV v u->Q v H'->CE outer P w H s Q u s' :=
  fun {σ' H' v u} J rv q=>⟨v,H',J.os,J.bare,J.base,J.hok,rv,q⟩
 cases fl with
 | ret u =>
  obtain ⟨v,σ',H',J,rv,q⟩:=hs
  exact fin J rv q
 | next =>
  obtain ⟨σ',H',J,q⟩:=hs
  exact fin (v:=V.non) (u:=Value.none) J rfl q
 | brk =>
  obtain ⟨_,_,_,q⟩:=hs
  exact False.elim q
 | cont =>
  obtain ⟨_,_,_,q⟩:=hs
  exact False.elim q
section
variable {X:Cx} {x:Str} {p pos:Pos} {e:Expr} {es:List Expr} {t:TA} {id T:String} {r:List V->Hp->VK->Prop}
def Td (r:List V->Hp->VK->Prop) (t:TA):TE:=fun σ H Q=>t σ H fun vs H1=>r vs H1 Q
theorem Bt (hc:gW X (.builtin id) r) (hg:Gl X x) (hm:X.mg x=none) (hv:bootBuiltins x=some (.builtin id)) (ha:PA X (e :: es) t) (hn:x≠"__name__":=by decide) (hdb:(x == ("__debug__":Str))=false:=by decide)
  (he:starEach (e :: es) X.env=(false,eval e X.env) :: starEach es X.env:=by rfl) (hpl:(backTo pos (starEach es X.env)).any (·.1)=false:=by rfl):PE X (.Call (.Name x p) (e :: es) [] pos) (Td r t):=by
 intro pins s σ H Q I h
 refine wpAny_Call_Name_kw (lH I hg hm hv ?_ hn hdb)
 exact PyProof.Rows.callWith_builtin1 (bP (ha pos pins s σ H _ I h) fun us s1 ⟨vs,H1,I1,r1,q1⟩=>hc pins s1 σ H1 vs us Q I1 r1 q1) he hpl
theorem Mm (hc:gW X (.type T) r) (hg:Gl X x) (hm:X.mg x=none) (hv:bootBuiltins x=some (.type T)) (ha:PA X (e :: es) t) (hn:x≠"__name__":=by decide) (hdb:(x == ("__debug__":Str))=false:=by decide)
  (he:starEach (e :: es) X.env=(false,eval e X.env) :: starEach es X.env:=by rfl) (hpl:(backTo pos (starEach es X.env)).any (·.1)=false:=by rfl):PE X (.Call (.Name x p) (e :: es) [] pos) (Td r t):=by
 intro pins s σ H Q I h
 refine wpAny_Call_Name_kw (lH I hg hm hv ?_ hn hdb)
 exact PyProof.Rows.callWith_type1 (bP (ha pos pins s σ H _ I h) fun us s1 ⟨vs,H1,I1,r1,q1⟩=>hc pins s1 σ H1 vs us Q I1 r1 q1) he hpl
end
end L2
namespace HT
open PySem PyProof.Rows
def lexLt:List Int->List Int->Bool
 | [],[]=>false
 | [],_ :: _=>true
 | _ :: _,[]=>false
 | x :: xs,y :: ys=>if x=y then lexLt xs ys else decide (x < y)
theorem Kj (x y:Int) (xs ys:List Int):lexLt (x :: xs) (y :: ys)=if x=y then lexLt xs ys else decide (x < y):=rfl
theorem An:lexLt [] []=false:=rfl
theorem yH (y:Int) (ys:List Int):lexLt [] (y :: ys)=true:=rfl
theorem zD (x:Int) (xs:List Int):lexLt (x :: xs) []=false:=rfl
theorem NJ (A:Around) (s:Shared) (a:Int) (t:Tok) (c:Int) (u:Tok):∃ e,SeqAt.EqAt A s (.int a t) (.int c u) e/\(e=true ↔ a=c) :=
 ⟨(a == c),SeqAt.EqAt.int_int a t c u,by simp⟩
theorem Ol (A:Around) (s:Shared) (a:Int) (t:Tok) (c:Int) (u:Tok) (prog:Program) (w:World) (E:Value->Shared->Prop) (Q:Value->Shared->Prop) (h:Q (.bool (decide (a < c))) s) :
  wpAny (model prog w) A (richCompare .Lt (.int a t) (.int c u)) Q E s :=
 (PyProof.Rows.lt_int h:wpAny (model prog w) A (compareOp .Lt (.int a t) (.int c u)) Q E s)
section
open PySem.SeqAt
open PySem.AutoSeq1 (wpAny_loadPart')
open PySem.MeetsSeq PySem.MeetsSeq2 PySem.MeetsSeq3
theorem Ax (l b:Addr) (items items2:Array Value) (n n2:Nat) (dd dd2:Option Addr) (sl sl2:Array (Option Value)) (ns ms:List Int) (hi:IntsAre items.toList ns) (hj:IntsAre items2.toList ms) :
  Meets (Builtin.«tuple.__lt__» ⟨[.ref l,.ref b],[]⟩)
   (fun _ R s=>s.heap.get? l=some { cls:=.type "tuple",dict:=dd,data:=.seq items n,slots:=sl }/\s.heap.get? b=some { cls:=.type "tuple",dict:=dd2,data:=.seq items2 n2,slots:=sl2 } /\
    R (.ok (.ret (.bool (lexLt ns ms)))) s) :=
 .of_wp fun prog w A R s h=>by
  obtain ⟨hp,g,d,tk,os⟩:=s;obtain ⟨hl,hb,h⟩:=h
  have f2:=AutoSeq1.sub_tuple_tuple
  have z1:items.size=ns.length:=by rw [<- hi.length];simp
  have z2:items2.size=ms.length:=by rw [<- hj.length];simp
  wp_walk using wpAny_loadPart' hl,wpAny_loadPart' hb,wpAny_forIn_list _ (fun rest b s'=>b.1=none/\s'=⟨hp,g,d,tk,os⟩/\∃ (vs ws:List Value) (ns' ms':List Int),rest=vs.zip ws /\
   IntsAre vs ns'/\IntsAre ws ms'/\ns'.length + items2.size=ms'.length + items.size/\R (.ok (.ret (.bool (lexLt ns' ms')))) ⟨hp,g,d,tk,os⟩) _
  case turn =>
   rintro ⟨y,x⟩ rest b s' ⟨hb',rfl,vs,ws,ns',ms',hz,hvi,hwi,hlen,hR⟩
   cases hvi with
   | nil=>rw [List.zip_nil_left] at hz;cases hz
   | cons a t hvi' =>
    cases hwi with
    | nil=>rw [List.zip_nil_right] at hz;cases hz
    | cons c u hwi' =>
     rw [List.zip_cons_cons] at hz
     injection hz with hyx hrest
     injection hyx with hy hx
     subst hy hx
     rw [Kj] at hR
     simp only [List.length_cons] at hlen
     obtain ⟨e,he,hiff⟩:=NJ A.in1 ⟨hp,g,d,tk,os⟩ a t c u
     refine wpAny_bind (he prog w _ _ ?_)
     cases e with
     | true =>
      rw [if_pos (hiff.mp rfl)] at hR
      wp_walk
      exact ⟨rfl,rfl,_,_,_,_,hrest,hvi',hwi',by omega,hR⟩
     | false =>
      rw [if_neg (fun q=>absurd (hiff.mpr q) Bool.false_ne_true)] at hR
      have hri:=Ol A.in1 ⟨hp,g,d,tk,os⟩ a t c u prog w
      wp_walk using hri
      exact ⟨_,rfl,by simpa using hR⟩
  case fin =>
   rintro ⟨b1,b2⟩ s' ⟨hb',rfl,vs,ws,ns',ms',hz,hvi,hwi,hlen,hR⟩
   simp only at hb'
   subst hb'
   have hv:lexLt ns' ms'=decide (items.size < items2.size):=by
    cases hvi with
    | nil =>
     cases hwi with
     | nil =>
      simp only [List.length_nil] at hlen
      rw [An]
      exact (decide_eq_false (by omega)).symm
     | cons c u hw =>
      simp only [List.length_nil,List.length_cons] at hlen
      rw [yH]
      exact (decide_eq_true (by omega)).symm
    | cons a t hv =>
     cases hwi with
     | nil =>
      simp only [List.length_nil,List.length_cons] at hlen
      rw [zD]
      exact (decide_eq_false (by omega)).symm
     | cons c u hw =>
      rw [List.zip_cons_cons] at hz
      cases hz
   rw [hv] at hR
   wp_walk
   exact ⟨_,rfl,by simpa [Builtin.Tuple.tupleCompareSizes] using hR⟩
  case h =>
   exact ⟨rfl,rfl,items.toList,items2.toList,ns,ms,rfl,hi,hj,by omega,h⟩
end
section
variable {prog:Program} {w:World} {A:Around} {E:Value->Shared->Prop} {s:Shared}
theorem KA {l b:Addr} {items items2:Array Value} {ns ms:List Int} {Q:Value->Shared->Prop} (hl:IsTup s.heap l items) (hb:IsTup s.heap b items2) (hi:IntsAre items.toList ns) (hj:IntsAre items2.toList ms)
  (hu:A.units < cLine) (h:Q (.bool (lexLt ns ms)) s):wpAny (model prog w) A (compareOp .Lt (.ref l) (.ref b)) Q E s:=by
 obtain ⟨⟨cls,dd,data,sl⟩,ho,hc,n,hd⟩:=id hl
 obtain ⟨⟨cls2,dd2,data2,sl2⟩,ho2,hc2,n2,hd2⟩:=id hb
 simp only at hc hd hc2 hd2
 subst hc hd hc2 hd2
 exact richCompare_meets_room (op:=.Lt) ⟨_,ho,rfl⟩ ⟨_,ho2,rfl⟩ PySem.F.slot_tuple_lt PySem.F.entry_tuple_lt (PySem.F.args_tuple_lt_2 _ _) (Ax l b items items2 n n2 dd dd2 sl sl2 ns ms hi hj)
  ⟨ho,ho2,show Value.bool (lexLt ns ms)≠Value.notImplemented/\Q (.bool (lexLt ns ms)) s from ⟨(fun x=>nomatch x),h⟩⟩ hu
theorem R1 {t b:Addr} {vs ws:List Value} {Q:Value->Shared->Prop} (ht:IsTup s.heap t vs.toArray) (hb:IsTup s.heap b ws.toArray) (hv:vs≠[])
  (h1:ws=[]->Q (.ref t) s) (h2:ws≠[]->Q (.ref s.heap.objs.size) { s with heap:=s.heap.push { cls:=.type "tuple",data:=.seq (vs++ws).toArray } })
  (hsz:vs.length + ws.length<=sizeLine):wpAny (model prog w) A (binaryOp .Add (.ref t) (.ref b)) Q E s:=by
 obtain ⟨⟨cls,dd,data,sl⟩,ho,hc,n,hd⟩:=id ht
 obtain ⟨⟨cls2,dd2,data2,sl2⟩,ho2,hc2,n2,hd2⟩:=id hb
 simp only at hc hd hc2 hd2
 subst hc hd hc2 hd2
 have e:vs.toArray++ws.toArray=(vs++ws).toArray:=by simp
 by_cases hw:ws=[]
 ·exact concat_meets ⟨_,ho,rfl⟩ ⟨_,ho2,rfl⟩ noFill_tuple_add seq_tuple_add PySem.F.slot_tuple_add PySem.F.entry_tuple_add (PySem.F.args_tuple_add_2 _ _)
   (tuple_addW1 t b vs.toArray ws.toArray n n2 dd dd2 sl sl2 (by simpa using hv) (by simp [hw])) ⟨ho,ho2,h1 hw⟩
 ·refine concat_meets ⟨_,ho,rfl⟩ ⟨_,ho2,rfl⟩ noFill_tuple_add seq_tuple_add PySem.F.slot_tuple_add PySem.F.entry_tuple_add (PySem.F.args_tuple_add_2 _ _)
   (tuple_addW2 t b vs.toArray ws.toArray n n2 dd dd2 sl sl2 (by simpa using hv) (by simpa using hw) (by rw [List.size_toArray,List.size_toArray];exact hsz)) ⟨ho,ho2,?_⟩
  rw [e]
  exact h2 hw
def bS (n d:Nat):Option Int->Nat
 | none=>d
 | some v=>if v < 0 then (v + (n:Int)).toNat else min v.toNat n
theorem UP (n d:Nat) (hd:d<=n) (o:Option Int):bS n d o<=n:=by
 cases o with
 | none=>exact hd
 | some v =>
  show (if v < 0 then (v + (n:Int)).toNat else min v.toNat n)<=n
  by_cases hv:v < 0
  ·rw [if_pos hv];omega
  ·rw [if_neg hv];exact Nat.min_le_right _ _
theorem F7 (v:Int) (n d:Nat):(if v < 0 then max (v + (n:Int)) 0 else min v (n:Int))=((bS n d (some v):Nat):Int):=by
 show (if v < 0 then max (v + (n:Int)) 0 else min v (n:Int))=(((if v < 0 then (v + (n:Int)).toNat else min v.toNat n):Nat):Int)
 by_cases hv:v < 0
 ·simp only [if_pos hv];omega
 ·simp only [if_neg hv];omega
theorem HU (lo hi:Option Int) (n:Nat):Builtin.Slice.sliceAdjust lo hi 1 (n:Int)=(((bS n 0 lo:Nat):Int),((bS n n hi:Nat):Int)):=by
 have h1:¬ ((1:Int) < 0):=by omega
 unfold Builtin.Slice.sliceAdjust
 simp only [h1,if_false]
 refine Prod.ext ?_ ?_
 ·cases lo with
  | none=>rfl
  | some v=>exact F7 v n 0
 ·cases hi with
  | none=>rfl
  | some v=>exact F7 v n n
theorem Il (i j:Nat):Builtin.Slice.slicePlaces (i:Int) (j:Int) 1=j - i:=by
 unfold Builtin.Slice.slicePlaces
 have h1:(1:Int) > 0:=by omega
 simp only [h1,if_true,Int.ediv_one]
 split <;> omega
theorem xR {v:Value} {o:Option Int} {Q:Option Int->Shared->Prop} (p:IsPart v o) (h:Q o s):wpAny (model prog w) A (Builtin.Slice.slicePartIndex v) Q E s:=by
 cases p with
 | none=>exact slicePart_none h
 | int i t=>exact slicePart_int h
theorem nU {sl:Addr} {vl vu:Value} {lo hi:Option Int} {n:Nat} {Q:Int × Int × Nat->Shared->Prop} (hs:s.heap.IsSliceOf sl vl vu .none) (pl:IsPart vl lo) (pu:IsPart vu hi)
  (h:Q (((bS n 0 lo:Nat):Int),1,bS n n hi - bS n 0 lo) s):wpAny (model prog w) A (Builtin.Slice.sliceApplied (.ref sl) (pure (n:Int))) Q E s:=by
 obtain ⟨os,hos,hcs,hds⟩:=id hs
 unfold Builtin.Slice.sliceApplied Builtin.Slice.sliceFields
 refine wpAny_bind (wpAny_bind (wpAny_field hos hds (x:=vl) rfl (wpAny_bind (wpAny_field hos hds (x:=vu) rfl (wpAny_bind (wpAny_field hos hds (x:=.none) rfl (wpAny_pure ?_)))))))
 refine wpAny_bind (slicePart_none ?_)
 show wpAny _ _ (if ((1:Int) == 0)=true then _ else _) _ _ s
 rw [if_neg (by decide)]
 refine wpAny_bind (xR pl (wpAny_bind (xR pu (wpAny_bind (wpAny_pure ?_)))))
 show wpAny _ _ (match Builtin.Slice.sliceAdjust lo hi 1 (n:Int) with | (lo,hi)=>pure (lo,(1:Int),Builtin.Slice.slicePlaces lo hi 1)) _ _ s
 rw [HU lo hi n]
 show wpAny _ _ (pure (((bS n 0 lo:Nat):Int),(1:Int),Builtin.Slice.slicePlaces ((bS n 0 lo:Nat):Int) ((bS n n hi:Nat):Int) 1)) _ _ s
 rw [Il]
 exact wpAny_pure h
theorem PL (xs:Array Value) (i k:Nat):((List.range k).filterMap fun (m:Nat)=>xs[((i:Int) + (m:Int) * 1).toNat]?).toArray=((xs.toList.drop i).take k).toArray:=by
 have e:(fun (m:Nat)=>xs[((i:Int) + (m:Int) * 1).toNat]?)=fun m=>xs[i + m]?:=by
  funext m
  have:((i:Int) + (m:Int) * 1).toNat=i + m:=by omega
  rw [this]
 rw [e]
 have:=pick_run xs i k
 rw [List.filterMap_map] at this
 have e2:((fun x=>xs[x]?) ∘ fun x=>i + x)=fun m=>xs[i + m]?:=rfl
 rw [e2] at this
 rw [this]
theorem uU {t sl:Addr} {items:Array Value} {vl vu:Value} {lo hi:Option Int} {Q:Value->Shared->Prop} (ht:IsTup s.heap t items) (hs:s.heap.IsSliceOf sl vl vu .none) (pl:IsPart vl lo) (pu:IsPart vu hi)
  (hw:¬ (bS items.size 0 lo=0/\bS items.size items.size hi=items.size))
  (h:Q (.ref s.heap.objs.size) { s with heap:=s.heap.push { cls:=.type "tuple",data:=.seq ((items.toList.drop (bS items.size 0 lo)).take (bS items.size items.size hi - bS items.size 0 lo)).toArray } })
  (hsz:items.size<=sizeLine):wpAny (model prog w) A (getItem (.ref t) (.ref sl)) Q E s:=by
 have htake:sizeOk (.seq ((items.toList.drop (bS items.size 0 lo)).take (bS items.size items.size hi - bS items.size 0 lo)).toArray):=by
  show ((items.toList.drop (bS items.size 0 lo)).take (bS items.size items.size hi - bS items.size 0 lo)).toArray.size<=sizeLine
  rw [List.size_toArray,List.length_take,List.length_drop,Array.length_toList]
  omega
 have hj:bS items.size items.size hi<=items.size:=UP _ _ (Nat.le_refl _) hi
 obtain ⟨os,hos,hcs,hds⟩:=id hs
 have hTs:s.TypeIs (.ref sl) "slice":=⟨os,hos,hcs⟩
 unfold getItem
 try with_reducible refine wpAny_holding ?_
 first | refine wpAny_bind (wpAny_pure ?_) | skip
 refine wpAny_bind (wpAny_sequenceKey ht.typeIs (by decide) ?_)
 refine wpAny_bind (wpAny_callSpecial?_slot (name:=Str.ofString "__getitem__") ht.typeIs PyProof.Rows.slot_tuple_getitem
  (wpAny_call_entry PyProof.Rows.slot_tuple_getitem ht.typeIs entry_tuple_getitem ?_ (args_tuple_getitem _ _)))
 show wpAny _ _ (Builtin.Tuple.tupleItemsOf (.ref t) >>= _) _ _ s
 refine wpAny_bind (tupleItemsOf_ ht ?_)
 refine wpAny_bind (wpAny_typeOf hTs ?_)
 rw [if_pos (by decide)]
 refine wpAny_bind (nU hs pl pu ?_)
 have hno:¬ ((((bS items.size 0 lo:Nat):Int) == 0 && (1:Int) == 1 && (bS items.size items.size hi - bS items.size 0 lo) == items.size)=true):=by
  intro q
  rw [Bool.and_eq_true,Bool.and_eq_true] at q
  have q1:((bS items.size 0 lo:Nat):Int)=0:=eq_of_beq q.1.1
  have q2:bS items.size items.size hi - bS items.size 0 lo=items.size:=eq_of_beq q.2
  exact hw ⟨by omega,by omega⟩
 show wpAny _ _ (if (((bS items.size 0 lo:Nat):Int) == 0 && (1:Int) == 1 && (bS items.size items.size hi - bS items.size 0 lo) == items.size)=true then _ else _) _ _ s
 rw [if_neg hno,PL]
 first
  | exact wpAny_bind (m:=Builtin.Tuple.tupleExact _) (wpAny_newObj_type (wpAny_pure ⟨_,rfl,wpAny_pure h⟩) htake)
  | exact wpAny_bind (m:=Builtin.Tuple.tupleExact _) (wpAny_newObj_type (wpAny_bind (wpAny_pure (wpAny_pure ⟨_,rfl,wpAny_pure h⟩))) htake)
  | exact wpAny_bind (wpAny_bind (m:=Builtin.Tuple.tupleExact _) (wpAny_newObj_type (wpAny_pure (wpAny_pure ⟨_,rfl,wpAny_pure h⟩)) htake))
  | exact wpAny_bind (wpAny_bind (m:=Builtin.Tuple.tupleExact _) (wpAny_newObj_type (wpAny_pure ⟨_,rfl,wpAny_pure h⟩) htake))
end
end HT
namespace L2
open PySem PySem.Spec PyProof.Rows
abbrev TO:=St->Hp->(Option Int->Hp->Prop)->Prop
def PO (X:Cx) (e:Option Expr) (t:TO):Prop :=
 ∀ (pins:List (Addr × Obj)) (s:Shared) (σ:St) (H:Hp) (Q:Option Int->Hp->Prop),Inv X pins σ H s->t σ H Q ->
  wpAny (model X.prog X.w) X.A (evalPart e X.env) (fun u s'=>∃ o H',Inv X pins σ H' s'/\IsPart u o/\Q o H') X.xe s
def Gk:TO:=fun _ H Q=>Q none H
def P5 (t:TE):TO:=fun σ H Q=>t σ H fun x H1=>∃ i,x=.int i/\Q (some i) H1
theorem intsAre_of {ns:List Int}:∀ {us:List Value},Vals (ns.map V.int) us->IntsAre us ns:=by
 induction ns with
 | nil=>intro us r;rw [List.map_nil] at r;cases r;exact .nil
 | cons n ns ih =>
  intro us r
  rw [List.map_cons] at r
  cases r with
  | cons r1 r2 =>
   obtain ⟨t,e⟩:=r1
   subst e
   exact .cons n t (ih r2)
section
variable {X:Cx} {e:Expr} {te:TE} {lo hi:Option Expr} {tl th:TO} {pos p2:Pos}
theorem RQ:PO X none Gk:=by
 intro pins s σ H Q I h
 rw [evalPart_none]
 exact wpAny_pure ⟨none,H,I,.none,h⟩
theorem RT (h:PE X e te):PO X (some e) (P5 te):=by
 intro pins s σ H Q I hw
 rw [evalPart_some]
 refine bP (h pins s σ H _ I hw) fun u s1 ⟨x,H1,I1,r1,q1⟩=>?_
 obtain ⟨i,rfl,q⟩:=q1
 obtain ⟨t,rfl⟩:=r1
 exact ⟨some i,H1,I1,.int i t,q⟩
def u3 (X:Cx) (r:V->Option Int->Option Int->Hp->VK->Prop):Prop :=
 ∀ (pins:List (Addr × Obj)) (s:Shared) (σ:St) (H:Hp) (x:V) (v vl vu:Value) (lo hi:Option Int) (sl:Addr) (Q:VK),Inv X pins σ H s->RelV x v->s.heap.IsSliceOf sl vl vu .none->IsPart vl lo->IsPart vu hi->r x lo hi H Q ->
  ∃ T id,typeLookup (.type T) "__getitem__"=pure (some (.builtin id))/\s.TypeIs v T/\wpAny (model X.prog X.w) X.A (getItem v (.ref sl)) (EP X pins σ Q) X.xe s
theorem u3.or {r r':V->Option Int->Option Int->Hp->VK->Prop} (h:u3 X r) (h':u3 X r'):u3 X (fun x lo hi H Q=>r x lo hi H Q\/r' x lo hi H Q):=by
 intro pins s σ H x v vl vu lo hi sl Q I rx hs pl pu q
 rcases q with q | q
 ·exact h pins s σ H x v vl vu lo hi sl Q I rx hs pl pu q
 ·exact h' pins s σ H x v vl vu lo hi sl Q I rx hs pl pu q
def Wf (r:V->Option Int->Option Int->Hp->VK->Prop) (te:TE) (tl th:TO):TE:=fun σ H Q=>te σ H fun x H1=>tl σ H1 fun l H2=>th σ H2 fun u H3=>r x l u H3 Q
theorem Px {r:V->Option Int->Option Int->Hp->VK->Prop} (hr:u3 X r) (he:PE X e te) (hl:PO X lo tl) (hu:PO X hi th):PE X (.Subscript e (.Slice lo hi none p2) pos) (Wf r te tl th):=by
 intro pins s σ H Q I h
 refine Subscript_ (bP (he pins s σ H _ I h) fun v s1 ⟨x,H1,I1,r1,q1⟩=>?_)
 refine wpAny_Slice (bP (hl pins s1 σ H1 _ I1 q1) fun vl s2 ⟨l,H2,I2,pl,q2⟩=>bP (hu pins s2 σ H2 _ I2 q2) fun vu s3 ⟨u,H3,I3,pu,q3⟩=>?_)
 rw [evalPart_none]
 refine wpAny_pure ?_
 have I4:Inv X pins σ H3 { s3 with heap:=s3.heap.push { cls:=.type "slice",data:=.fields #[vl,vu,.none] } }:=I3.kept (t':=s3.toks) fun b ob q=>Heap.get?_push_of_some _ q
 obtain ⟨T,id,hT,ht,hg⟩:=hr pins { s3 with heap:=s3.heap.push { cls:=.type "slice",data:=.fields #[vl,vu,.none] } } σ H3 x v vl vu l u s3.heap.objs.size Q I4 r1 (Heap.IsSliceOf.new ..) pl pu q3
 show wpAny (model X.prog X.w) X.A (subscriptTail e (.Slice lo hi none p2) v (.ref s3.heap.objs.size)) (EP X pins σ Q) X.xe { s3 with heap:=s3.heap.push { cls:=.type "slice",data:=.fields #[vl,vu,.none] } }
 exact tail_any (ops:=[.ref s3.heap.objs.size,v]) ht hT hg (by with_unfolding_all rfl)
def o7 (xs:List V) (lo hi:Option Int):List V:=(xs.drop (HT.bS xs.length 0 lo)).take (HT.bS xs.length xs.length hi - HT.bS xs.length 0 lo)
theorem uZ (xs:List V) (lo hi:Option Int):(o7 xs lo hi).length<=xs.length:=by
 unfold o7
 rw [List.length_take,List.length_drop]
 omega
def WN (K:PySem.W.Frag):V->Option Int->Option Int->Hp->VK->Prop:=fun x lo hi H Q=>∃ a xs,x=.ref a/\fA K H a xs /\
 ¬ (HT.bS xs.length 0 lo=0/\HT.bS xs.length xs.length hi=xs.length)/\∀ p,H p=none->Q (.ref p) (upd H p (.tup (o7 xs lo hi)))
theorem SM:u3 X (WN X.K):=by
 intro pins s σ H x v vl vu lo hi sl Q I rx hs pl pu h
 obtain ⟨a,xs,rfl,hx,hw,q⟩:=h
 cases rx
 obtain ⟨its,r,ht,hz⟩:=I.tuple hx
 have hlen:its.toArray.size=xs.length:=by rw [List.size_toArray];exact r.length.symm
 refine ⟨"tuple",_,PyProof.Rows.slot_tuple_getitem.lookup,ht.typeIs,?_⟩
 refine HT.uU ht hs pl pu (by rw [hlen];exact hw) ?_ (by rw [hlen];exact hz)
 rw [hlen]
 refine ⟨.ref s.heap.objs.size,_,I.laid (t':=s.toks) (o:=.tup (o7 xs lo hi)) (fun b ob q=>Heap.get?_push_of_some _ q) (Nat.le_refl _) ?_,rfl,q _ (I.hok.fresh (Nat.le_refl _))⟩
 exact ⟨Nat.le_trans (uZ xs lo hi) hz,_,(r.drop (HT.bS xs.length 0 lo)).take (HT.bS xs.length xs.length hi - HT.bS xs.length 0 lo),iH.new _ _⟩
def WM (K:PySem.W.Frag):R2:=fun x y H Q=>∃ a b ns ms,x=.ref a/\y=.ref b/\fA K H a (ns.map V.int)/\fA K H b (ms.map V.int)/\Q (.bl (HT.lexLt ns ms)) H
theorem SG (hu:X.A.units < cLine):cV X (compareOp .Lt) (WM X.K):=by
 intro pins s σ H x y v u Q I rx ry h
 obtain ⟨a,b,ns,ms,rfl,rfl,ha,hb,q⟩:=h
 cases rx
 cases ry
 obtain ⟨its,r1,p1,_⟩:=I.tuple ha
 obtain ⟨its2,r2,p2,_⟩:=I.tuple hb
 have i1:IntsAre its.toArray.toList ns:=intsAre_of r1
 have i2:IntsAre its2.toArray.toList ms:=intsAre_of r2
 exact HT.KA p1 p2 i1 i2 hu ⟨.bl (HT.lexLt ns ms),H,I,rfl,q⟩
def VY (K:PySem.W.Frag):R2:=fun x y H Q=>∃ a b xs ys,x=.ref a/\y=.ref b/\fA K H a xs/\fA K H b ys/\xs≠[]/\xs.length + ys.length<=sizeLine /\
 (ys=[]->Q (.ref a) H)/\(ys≠[]->∀ p,H p=none->Q (.ref p) (upd H p (.tup (xs++ys))))
theorem Vals.nil_iff {xs:List V} {us:List Value} (r:Vals xs us):us=[] ↔ xs=[]:=by
 cases r with
 | nil=>simp
 | cons _ _=>simp
theorem Se:cV X (binaryOp .Add) (VY X.K):=by
 intro pins s σ H x y v u Q I rx ry h
 obtain ⟨a,b,xs,ys,rfl,rfl,ha,hb,hx,hz,q1,q2⟩:=h
 cases rx
 cases ry
 obtain ⟨its,r1,p1,_⟩:=I.tuple ha
 obtain ⟨its2,r2,p2,_⟩:=I.tuple hb
 refine HT.R1 p1 p2 (fun z=>hx (r1.nil_iff.mp z)) (fun z=>⟨.ref a,H,I,rfl,q1 (r2.nil_iff.mp z)⟩) (fun z=>?_) (by rw [<- r1.length,<- r2.length];exact hz)
 refine ⟨.ref s.heap.objs.size,_,I.laid (t':=s.toks) (o:=.tup (xs++ys)) (fun b ob q=>Heap.get?_push_of_some _ q) (Nat.le_refl _) ?_,rfl,q2 (fun w=>z (r2.nil_iff.mpr w)) _ (I.hok.fresh (Nat.le_refl _))⟩
 exact ⟨by rw [List.length_append];exact hz,_,r1.append r2,iH.new _ _⟩
end
def u6 (n:Nat) (i:Int):Option Nat:=if 0<=i then (if i < n then some i.toNat else none) else if -(n:Int)<=i then some (i + n).toNat else none
def eF {α:Type} (xs:List α) (i:Int):Option α:=(u6 xs.length i).bind fun j=>xs[j]?
theorem Gh {n:Nat} {i:Int} {j:Nat} (h:u6 n i=some j):seqIndex? i n=some j/\j < n/\-(n:Int)<=i/\i < n:=by
 unfold u6 at h
 by_cases h0:0<=i
 ·rw [if_pos h0] at h
  by_cases h1:i < n
  ·rw [if_pos h1] at h
   have e:i.toNat=j:=Option.some.inj h
   exact ⟨by rw [seqIndex_of h0 h1,e],by omega,by omega,h1⟩
  ·rw [if_neg h1] at h;cases h
 ·rw [if_neg h0] at h
  by_cases h1:-(n:Int)<=i
  ·rw [if_pos h1] at h
   have e:(i + n).toNat=j:=Option.some.inj h
   exact ⟨by rw [seqIndex_neg (by omega) h1,e],by omega,h1,by omega⟩
  ·rw [if_neg h1] at h;cases h
theorem y8 {α:Type} {xs:List α} {i:Int} {v:α} (h:eF xs i=some v):∃ j,seqIndex? i xs.length=some j/\xs[j]?=some v/\j < xs.length/\-(xs.length:Int)<=i/\i < xs.length:=by
 unfold eF at h
 cases e:u6 xs.length i with
 | none=>rw [e] at h;cases h
 | some j =>
  rw [e] at h
  obtain ⟨h1,h2,h3,h4⟩:=Gh e
  exact ⟨j,h1,h,h2,h3,h4⟩
theorem eC {α:Type} {xs:List α} {j:Nat} {v:α} (h:xs[j]?=some v):eF xs (j:Int)=some v:=by
 have hj:j < xs.length:=(List.getElem?_eq_some_iff.mp h).1
 have e:u6 xs.length (j:Int)=some j:=by
  unfold u6
  rw [if_pos (by omega),if_pos (by omega)];simp
 unfold eF;rw [e];exact h
def uG (b:Expr):Prop:=∀ o i,subscripted b false o i=operate [o,i] (getItem o i)
def xB (X:Cx) (r:R2):Prop :=
 ∀ (value slice:Expr) (pins:List (Addr × Obj)) (s:Shared) (σ:St) (H:Hp) (x y:V) (v u:Value) (Q:VK),Inv X pins σ H s->RelV x v->RelV y u->r x y H Q ->
  subscripted slice false v u=operate [v,u] (getItem v u)->wpAny (model X.prog X.w) X.A (subscriptTail value slice v u) (EP X pins σ Q) X.xe s
def Wj (X:Cx) (id:String) (r:V->List V->Hp->VK->Prop):Prop :=
 ∀ (pins:List (Addr × Obj)) (s:Shared) (σ:St) (H:Hp) (x:V) (xs:List V) (v:Value) (us:List Value) (Q:VK),Inv X pins σ H s->RelV x v->Vals xs us->r x xs H Q ->
  wpAny (model X.prog X.w) X.A (call (.builtin id) (v :: us)) (EP X pins σ Q) X.xe s
section
variable {X:Cx} {a b:Expr} {ta tb:TE} {pos:Pos}
theorem xB.or {r r':R2} (h:xB X r) (h':xB X r'):xB X (fun x y H Q=>r x y H Q\/r' x y H Q):=by
 intro value slice pins s σ H x y v u Q I rx ry q hs
 rcases q with q | q
 ·exact h value slice pins s σ H x y v u Q I rx ry q hs
 ·exact h' value slice pins s σ H x y v u Q I rx ry q hs
theorem Wb {r:R2} (hr:xB X r) (ha:PE X a ta) (hb:PE X b tb) (hs:uG b):PE X (.Subscript a b pos) (GG r ta tb):=by
 intro pins s σ H Q I h
 exact Subscript_ (Kd ha hb I h fun v u s2 x y H2 I2 rx ry q=>hr a b pins s2 σ H2 x y v u Q I2 rx ry q (hs _ _))
def Vl (K:PySem.W.Frag):R2:=fun x y H Q=>∃ p xs i v,x=.ref p/\y=.int i/\dM K H p xs/\eF xs i=some v/\Q v H
def SK (K:PySem.W.Frag):R2:=fun x y H Q=>∃ p xs i v,x=.ref p/\y=.int i/\fA K H p xs/\eF xs i=some v/\Q v H
def UM:R2:=fun x y H Q=>∃ z i c,x=.str z/\y=.int i/\z.length<=sizeLine/\eF z.cps.toList i=some c/\Q (.str ⟨#[c]⟩) H
theorem QZ:xB X (Vl X.K):=by
 intro value slice pins s σ H x y v u Q I rx ry h hs
 obtain ⟨p,xs,i,z,rfl,rfl,hq,he,q⟩:=h
 cases rx
 obtain ⟨t,rfl⟩:=ry
 obtain ⟨its,r,pl,hz⟩:=I.list hq
 obtain ⟨j,h1,h2,h3,h4,h5⟩:=y8 he
 obtain ⟨w,ew,rw'⟩:=r.get h2
 have hl:=r.length
 have hn:=pX
 have fin:EP X pins σ Q w s:=⟨z,H,I,rw',q⟩
 by_cases h0:0<=i
 ·have hj:i.toNat=j:=by
   rw [seqIndex_of h0 h5] at h1
   exact Option.some.inj h1
  exact item_listR pl.isList h0 (by omega) (by rw [hj];simpa using ew) fin hs
 ·have hj:(i + (its.toArray.size:Int)).toNat=j:=by
   rw [seqIndex_neg (by omega) h4] at h1
   rw [List.size_toArray,<- hl]
   exact Option.some.inj h1
  exact subscriptTail_builtinR (x:=w) pl.isList.typeIs slot_list_getitem.lookup
   (wpAny_getItem_list_neg (Q:=fun r s'=>r=w/\EP X pins σ Q r s') pl.isList (by omega) (by rw [List.size_toArray] <;> omega) (by omega) (by rw [hj];simpa using ew) ⟨rfl,fin⟩) hs
theorem Tz:xB X (SK X.K):=by
 intro value slice pins s σ H x y v u Q I rx ry h hs
 obtain ⟨p,xs,i,z,rfl,rfl,hq,he,q⟩:=h
 cases rx
 obtain ⟨t,rfl⟩:=ry
 obtain ⟨its,r,pl,hz⟩:=I.tuple hq
 obtain ⟨j,h1,h2,h3,h4,h5⟩:=y8 he
 obtain ⟨w,ew,rw'⟩:=r.get h2
 have hl:=r.length
 have hn:=pX
 have fin:EP X pins σ Q w s:=⟨z,H,I,rw',q⟩
 exact subscriptTail_builtinR (x:=w) pl.typeIs slot_tuple_getitem.lookup
  (getItem_tuple (j:=j) (Q:=fun r s'=>r=w/\EP X pins σ Q r s') pl (by omega) (by omega) (by rw [List.size_toArray,<- hl];exact h1) (by simpa using ew) ⟨rfl,fin⟩) hs
theorem Tq:xB X UM:=by
 intro value slice pins s σ H x y v u Q I rx ry h hs
 obtain ⟨z,i,c,rfl,rfl,hz,he,q⟩:=h
 obtain ⟨t,rfl⟩:=rx
 obtain ⟨t',rfl⟩:=ry
 obtain ⟨j,h1,h2,h3,h4,h5⟩:=y8 he
 have hl:z.cps.toList.length=z.length:=by simp [Str.length]
 rw [hl] at h1 h4 h5
 have hn:=pX
 exact tail_any (typeIs_str s z t) slot_str_getitem.lookup (getItem_str (c:=c) (by
  have e1:decide (i < -(2 ^ 63:Int))=false:=decide_eq_false (by omega)
  have e2:decide (i ≥ 2 ^ 63)=false:=decide_eq_false (by omega)
  rw [e1,e2,Bool.or_false]) (by rw [h1];simpa using h2) ⟨.str ⟨#[c]⟩,H,I.tok _,⟨_,rfl⟩,q⟩) hs
def Wq (K:PySem.W.Frag):R2:=fun x y H Q=>Vl K x y H Q\/SK K x y H Q\/UM x y H Q
theorem Vr:xB X (Wq X.K):=QZ.or (Tz.or Tq)
theorem JQ (its:List Value) (n j:Nat) (u:Value):Obj.mapSeq (·.setIfInBounds j u) { cls:=.type "list",data:=.seq its.toArray n }={ cls:=.type "list",data:=.seq (its.set j u).toArray n }:=by
 simp [Obj.mapSeq]
theorem Inv.lst {pins:List (Addr × Obj)} {σ:St} {H:Hp} {s:Shared} {p:Addr} {xs:List V} (I:Inv X pins σ H s) (h:H p=some (.lst xs)) :
  ∃ (its:List Value) (n:Nat),Vals xs its/\s.heap.get? p=some { cls:=.type "list",data:=.seq its.toArray n }/\xs.length<=sizeLine:=by
 obtain ⟨z,its,n,r,e⟩:=I.hok p _ h
 exact ⟨its,n,r,e,z⟩
theorem Inv.lstUpd {pins:List (Addr × Obj)} {σ:St} {H:Hp} {s:Shared} {p:Addr} {xs ys:List V} {its its':List Value} {n n':Nat} {f:Obj->Obj} (I:Inv X pins σ H s) (h:H p=some (.lst xs))
  (ho:s.heap.get? p=some { cls:=.type "list",data:=.seq its.toArray n }) (hf:f { cls:=.type "list",data:=.seq its.toArray n }={ cls:=.type "list",data:=.seq its'.toArray n' }) (r:Vals ys its') (hz:ys.length<=sizeLine) (t:Nat) :
  Inv X pins σ (upd H p (.lst ys)) { s with heap:=s.heap.update p f,toks:=t }:=by
 have e:(s.heap.update p f).get? p=some { cls:=.type "list",data:=.seq its'.toArray n' }:=by
  rw [Heap.get?_update_self f ho (by rw [hf] <;> rfl),hf]
 refine I.write (x:=p) (e:=p) (by rw [h];trivial) (.inl rfl) (fun b u hb q=>(Heap.get?_update_other _ _ (Ne.symm hb)).trans q) ⟨_,e⟩ ?_
 exact ⟨hz,its',n',r,e⟩
def V8:V->V->V->Hp->(Hp->Prop)->Prop:=fun o i v H Q=>∃ p xs k j,o=.ref p/\i=.int k/\H p=some (.lst xs)/\u6 xs.length k=some j/\Q (upd H p (.lst (xs.set j v)))
theorem set_list:T4 X V8:=by
 intro pins s σ H o i v ov iv u Q I ro ri rv h
 obtain ⟨p,xs,k,j,rfl,rfl,hp,hj,q⟩:=h
 cases ro
 obtain ⟨t,rfl⟩:=ri
 obtain ⟨its,n,r,ho,hz⟩:=I.lst hp
 obtain ⟨h1,h2,h3,h4⟩:=Gh hj
 have hl:=r.length
 have hn:=pX
 have I':Inv X pins σ (upd H p (.lst (xs.set j v))) { s with heap:=s.heap.update p (Obj.mapSeq (·.setIfInBounds j u)) } :=
  I.lstUpd hp ho (JQ its n j u) (r.set rv j) (by rw [List.length_set];exact hz) s.toks
 by_cases h0:0<=k
 ·have hk:k.toNat=j:=by
   rw [seqIndex_of h0 h4] at h1
   exact Option.some.inj h1
  exact PySem.W.ki_setAt ho h0 (by omega) (by rw [List.size_toArray,<- hl];exact h4) (by rw [hk];exact ⟨_,I',q⟩)
 ·have hk:(k + (its.toArray.size:Int)).toNat=j:=by
   rw [seqIndex_neg (by omega) h3] at h1
   rw [List.size_toArray,<- hl]
   exact Option.some.inj h1
  exact PySem.W.ki_setBack ho (by omega) (by rw [List.size_toArray,<- hl];exact h3) (by omega) (by rw [hk];exact ⟨_,I',q⟩)
theorem AS (lo hi:Option Int) (n:Nat):(sliceBounds lo hi none n).1=((HT.bS n 0 lo:Nat):Int)/\(sliceBounds lo hi none n).2.1=((HT.bS n n hi:Nat):Int)/\(sliceBounds lo hi none n).2.2=1:=by
 refine ⟨?_,?_,rfl⟩
 ·cases lo with
  | none=>simp [sliceBounds,HT.bS]
  | some i =>
   simp only [sliceBounds,HT.bS,Option.getD_none,show (1:Int) > 0 by decide,if_true]
   by_cases h:i < 0
   ·simp only [h,if_true] <;> omega
   ·simp only [h,if_false] <;> omega
 ·cases hi with
  | none=>simp [sliceBounds,HT.bS]
  | some i =>
   simp only [sliceBounds,HT.bS,Option.getD_none,show (1:Int) > 0 by decide,if_true]
   by_cases h:i < 0
   ·simp only [h,if_true] <;> omega
   ·simp only [h,if_false] <;> omega
theorem AE (its:List Value) (lo hi:Option Int):slicePick its.toArray lo hi none=((its.drop (HT.bS its.length 0 lo)).take (HT.bS its.length its.length hi - HT.bS its.length 0 lo)).toArray:=by
 obtain ⟨h1,h2,h3⟩:=AS lo hi its.toArray.size
 unfold slicePick
 rw [h1,h2,h3]
 simp only [sliceRange_one,pick_run,List.size_toArray] <;> rfl
def WL (K:PySem.W.Frag):V->Option Int->Option Int->Hp->VK->Prop:=fun x lo hi H Q=>∃ a xs,x=.ref a/\dM K H a xs/\∀ p,H p=none->Q (.ref p) (upd H p (.lst (o7 xs lo hi)))
theorem Sk:u3 X (WL X.K):=by
 intro pins s σ H x v vl vu lo hi sl Q I rx hs pl pu h
 obtain ⟨a,xs,rfl,hx,q⟩:=h
 cases rx
 obtain ⟨its,r,ht,hz⟩:=I.list hx
 have hlen:=r.length
 refine ⟨"list",_,slot_list_getitem.lookup,ht.isList.typeIs,?_⟩
 refine wpAny_getItem_list_slice ht.isList hs pl pu .none (by simp) ?_ (by rw [List.size_toArray] <;> omega)
 rw [AE,<- hlen]
 refine ⟨.ref s.heap.objs.size,_,I.laid (t':=s.toks) (o:=.lst (o7 xs lo hi)) (fun b ob q=>Heap.get?_push_of_some _ q) (Nat.le_refl _) ?_,rfl,q _ (I.hok.fresh (Nat.le_refl _))⟩
 exact ⟨Nat.le_trans (uZ xs lo hi) hz,_,0,(r.drop (HT.bS xs.length 0 lo)).take (HT.bS xs.length xs.length hi - HT.bS xs.length 0 lo),Heap.get?_push_size _ rfl⟩
def hG:V->Bool
 | .non=>true
 | .bl _=>true
 | .int _=>true
 | .str _=>true
 | _=>false
def wM:V->V->Bool
 | .non,.non=>true
 | .bl a,.bl b=>a == b
 | .bl a,.int b=>(if a then 1 else 0) == b
 | .int a,.bl b=>a == (if b then 1 else 0)
 | .int a,.int b=>a == b
 | .str a,.str b=>a == b
 | _,_=>false
theorem Uo {A:Around} {s:Shared} {y x:V} {u v:Value} (ry:RelV y u) (rx:RelV x v) (fy:hG y=true) (fx:hG x=true):SeqAt.EqAt A s u v (wM y x):=by
 cases y with
 | non =>
  cases ry
  cases x with
  | non=>cases rx;exact SeqAt.EqAt.same _
  | bl b=>cases rx;exact SeqAt.EqAt.none_bool b
  | int b=>obtain ⟨t,rfl⟩:=rx;exact SeqAt.EqAt.none_int b t
  | str b=>obtain ⟨t,rfl⟩:=rx;exact SeqAt.EqAt.none_str b t
  | _=>exact absurd (show false=true from fx) Bool.false_ne_true
 | bl a =>
  cases ry
  cases x with
  | non=>cases rx;exact SeqAt.EqAt.bool_none a
  | bl b=>cases rx;exact SeqAt.EqAt.bool_bool a b
  | int b=>obtain ⟨t,rfl⟩:=rx;exact SeqAt.EqAt.bool_int a b t
  | str b=>obtain ⟨t,rfl⟩:=rx;exact SeqAt.EqAt.bool_str a b t
  | _=>exact absurd (show false=true from fx) Bool.false_ne_true
 | int a =>
  obtain ⟨t',rfl⟩:=ry
  cases x with
  | non=>cases rx;exact SeqAt.EqAt.int_none a t'
  | bl b=>cases rx;exact SeqAt.EqAt.int_bool a t' b
  | int b=>obtain ⟨t,rfl⟩:=rx;exact SeqAt.EqAt.int_int a t' b t
  | str b=>obtain ⟨t,rfl⟩:=rx;exact SeqAt.EqAt.int_str a t' b t
  | _=>exact absurd (show false=true from fx) Bool.false_ne_true
 | str a =>
  obtain ⟨t',rfl⟩:=ry
  cases x with
  | non=>cases rx;exact SeqAt.EqAt.str_none a t'
  | bl b=>cases rx;exact SeqAt.EqAt.str_bool a t' b
  | int b=>obtain ⟨t,rfl⟩:=rx;exact SeqAt.EqAt.str_int a t' b t
  | str b=>obtain ⟨t,rfl⟩:=rx;exact SeqAt.EqAt.str_str a t' b t
  | _=>exact absurd (show false=true from fx) Bool.false_ne_true
 | _=>exact absurd (show false=true from fy) Bool.false_ne_true
def oE (x:V) (u:Value):Bool:=match u with
 | .none=>wM .non x
 | .bool b=>wM (.bl b) x
 | .int i _=>wM (.int i) x
 | .str z _=>wM (.str z) x
 | _=>false
theorem KR {x y:V} {u:Value} (r:RelV y u) (f:hG y=true):oE x u=wM y x:=by
 cases y with
 | non=>cases r;rfl
 | bl b=>cases r;rfl
 | int i=>obtain ⟨t,rfl⟩:=r;rfl
 | str z=>obtain ⟨t,rfl⟩:=r;rfl
 | _=>exact absurd (show false=true from f) Bool.false_ne_true
theorem pQ {x:V}:∀ {xs:List V} {us:List Value},Vals xs us->xs.all hG=true->us.any (oE x)=xs.any fun y=>wM y x
 | _,_,.nil,_=>rfl
 | y :: xs,u :: us,.cons r t,f=>by
  rw [List.all_cons,Bool.and_eq_true] at f
  rw [List.any_cons,List.any_cons,KR r f.1,pQ t f.2]
theorem nV {A:Around} {s:Shared} {x:V} {v:Value} (rx:RelV x v) (fx:hG x=true):∀ {xs:List V} {us:List Value},Vals xs us->xs.all hG=true->∀ u∈us,SeqAt.EqAt A s u v (oE x u)
 | _,_,.nil,_=>fun u hu=>by cases hu
 | y :: xs,u :: us,.cons r t,f=>fun u' hu=>by
  rw [List.all_cons,Bool.and_eq_true] at f
  rcases List.mem_cons.mp hu with rfl | hu
  ·rw [KR r f.1];exact Uo r rx f.1 fx
  ·exact nV rx fx t f.2 u' hu
def Qf (x:V) (xs:List V):Bool:=xs.any fun y=>wM y x
def Qs (K:PySem.W.Frag) (neg:Bool):R2:=fun x y H Q=>∃ p xs,y=.ref p/\(dM K H p xs\/fA K H p xs)/\hG x=true/\xs.all hG=true/\Q (.bl (if neg then !Qf x xs else Qf x xs)) H
theorem Nu:cV X (compareOp .In) (Qs X.K false):=by
 intro pins s σ H x y v u Q I rx ry h
 obtain ⟨p,xs,rfl,hq,fx,fs,q⟩:=h
 cases ry
 rcases hq with hq | hq
 ·obtain ⟨its,r,pl,hz⟩:=I.list hq
  refine SeqAt.in_listAt (oE x) pl.isList (fun w hw=>nV rx fx r fs w (by simpa using hw)) ⟨.bl _,H,I,rfl,?_⟩
  rw [show its.toArray.any (oE x)=its.any (oE x) by simp,pQ r fs]
  exact q
 ·obtain ⟨its,r,pl,hz⟩:=I.tuple hq
  refine SeqAt.in_tupleAt (oE x) pl (fun w hw=>nV rx fx r fs w (by simpa using hw)) ⟨.bl _,H,I,rfl,?_⟩
  rw [show its.toArray.any (oE x)=its.any (oE x) by simp,pQ r fs]
  exact q
theorem sH:cV X (compareOp .NotIn) (Qs X.K true):=by
 intro pins s σ H x y v u Q I rx ry h
 obtain ⟨p,xs,rfl,hq,fx,fs,q⟩:=h
 cases ry
 rcases hq with hq | hq
 ·obtain ⟨its,r,pl,hz⟩:=I.list hq
  refine SeqAt.notIn_listAt (oE x) pl.isList (fun w hw=>nV rx fx r fs w (by simpa using hw)) ⟨.bl _,H,I,rfl,?_⟩
  rw [show its.toArray.any (oE x)=its.any (oE x) by simp,pQ r fs]
  exact q
 ·obtain ⟨its,r,pl,hz⟩:=I.tuple hq
  refine SeqAt.notIn_tupleAt (oE x) pl (fun w hw=>nV rx fx r fs w (by simpa using hw)) ⟨.bl _,H,I,rfl,?_⟩
  rw [show its.toArray.any (oE x)=its.any (oE x) by simp,pQ r fs]
  exact q
theorem gW.or {f:Value} {r r':List V->Hp->VK->Prop} (h:gW X f r) (h':gW X f r'):gW X f (fun xs H Q=>r xs H Q\/r' xs H Q):=by
 intro pins s σ H xs us Q I rs q
 rcases q with q | q
 ·exact h pins s σ H xs us Q I rs q
 ·exact h' pins s σ H xs us Q I rs q
theorem Aq:gW X (.type "tuple") (fun xs H Q=>∃ p ys,xs=[.ref p]/\((dM X.K H p ys/\∀ l,H l=none->Q (.ref l) (upd H l (.tup ys)))\/(fA X.K H p ys/\Q (.ref p) H))):=by
 intro pins s σ H xs us Q I r h
 obtain ⟨p,ys,rfl,h⟩:=h
 obtain ⟨u,rfl,rx⟩:=vals1 r
 cases rx
 rcases h with ⟨hq,q⟩ | ⟨hq,q⟩
 ·obtain ⟨its,r',pl,hz⟩:=I.list hq
  have hlen:=r'.length
  refine call_tuple_list pl.isList (fun h' kp=>?_) (by simp only [List.size_toArray] <;> omega)
  have I1:Inv X pins σ H { s with heap:=h' }:=I.kept (t':=s.toks) kp
  have I2:Inv X pins σ (upd H h'.objs.size (.tup ys)) { s with heap:=h'.push { cls:=.type "tuple",data:=.seq its.toArray } } :=
   I1.laid (t':=s.toks) (fun b o e=>Heap.get?_push_of_some _ e) (Nat.le_refl _) (show dB X.prog X.w _ _ _ (.tup ys) from ⟨hz,its,r',iH.new _ _⟩)
  exact ⟨.ref h'.objs.size,_,I2,rfl,q _ (I1.hok.fresh (Nat.le_refl _))⟩
 ·obtain ⟨its,r',pl,hz⟩:=I.tuple hq
  exact call_tuple_same pl ⟨.ref p,H,I,rfl,q⟩
def Qu (K:PySem.W.Frag) (T:String) (x:V) (H:Hp):Prop:=match x with
 | .str _=>T="str"
 | .int _=>T="int"
 | .ref p=>(T="list"/\∃ xs,dM K H p xs)\/(T="tuple"/\∃ o,K.lookup p=some o/\o.cls=.type "tuple"/\o.dict=none) \/
   (T="dict"/\((∃ kvs,H p=some (.dK kvs))\/∃ kvs,H p=some (.dT kvs)))\/(T="set"/\∃ S n,H p=some (.set S n))
 | _=>False
theorem Lb {pins:List (Addr × Obj)} {σ:St} {H:Hp} {s:Shared} {T:String} {x:V} {v:Value} (I:Inv X pins σ H s) (r:RelV x v) (ty:Qu X.K T x H) :
  s.TypeIs v T/\∀ a,v=.ref a->∃ ob,s.heap.get? a=some ob/\ob.dict=none:=by
 cases x with
 | str z =>
  obtain ⟨t,rfl⟩:=r
  cases (show T="str" from ty)
  exact ⟨typeIs_str s z t,fun _ e=>nomatch e⟩
 | int i =>
  obtain ⟨t,rfl⟩:=r
  cases (show T="int" from ty)
  exact ⟨typeIs_int s i t,fun _ e=>nomatch e⟩
 | ref p =>
  cases r
  rcases ty with ⟨rfl,xs,hq⟩ | ⟨rfl,o,hk,hc,hd⟩ | ⟨rfl,hk⟩ | ⟨rfl,S,n,hk⟩
  ·obtain ⟨its,_,pl,_⟩:=I.list hq
   refine ⟨pl.isList.typeIs,fun a e=>?_⟩
   cases e
   obtain ⟨o,n,e,c,hd,_⟩:=pl
   exact ⟨o,e,hd⟩
  ·refine ⟨⟨o,I.kIn p o hk,hc⟩,fun a e=>?_⟩
   cases e
   exact ⟨o,I.kIn _ o hk,hd⟩
  ·have z:∃ o,s.heap.get? p=some o/\o.ExactDict:=by
    rcases hk with ⟨kvs,hk⟩ | ⟨kvs,hk⟩
    ·obtain ⟨_,_,_,_,o,_,_,e,ex,_⟩:=I.hok p _ hk
     exact ⟨o,e,ex⟩
    ·obtain ⟨_,_,_,_,o,_,_,e,ex,_⟩:=I.hok p _ hk
     exact ⟨o,e,ex⟩
   obtain ⟨o,e,ex⟩:=z
   refine ⟨⟨o,e,ex.1⟩,fun a e2=>?_⟩
   cases e2
   exact ⟨o,e,ex.2.1⟩
  ·obtain ⟨o,_,_,_,e,ex,_⟩:=I.hok p _ hk
   refine ⟨⟨o,e,ex.1⟩,fun a e2=>?_⟩
   cases e2
   exact ⟨o,e,ex.2.1⟩
 | _=>exact False.elim ty
def SX (K:PySem.W.Frag) (T:String) (r:V->List V->Hp->VK->Prop) (to:TE):TE:=fun σ H Q=>to σ H fun x H1=>Qu K T x H1/\r x [] H1 Q
def Wt (K:PySem.W.Frag) (T:String) (r:V->List V->Hp->VK->Prop) (to:TE) (t:TA):TE:=fun σ H Q=>to σ H fun x H1=>Qu K T x H1/\t σ H1 fun xs H2=>r x xs H2 Q
variable {o e:Expr} {es:List Expr} {to:TE} {t:TA} {name:Str} {apos cpos:Pos} {T id:String} {r:V->List V->Hp->VK->Prop}
theorem Ta (pa:PlainAttrs T) (slot:Slot T name id) (hty:typeOf (.builtin id)=pure (.type "method_descriptor")) (hm:Wj X id r) (ho:PE X o to)
  (hbase:attributeBase o name X.env (eval o X.env)=eval o X.env:=by rfl) (hline:(apos.endLine == cpos.line)=true:=by rfl):PE X (.Call (.Attribute o name apos) [] [] cpos) (SX X.K T r to):=by
 intro pins s σ H Q I h
 refine wpAny_Call_method0_late hbase hline (bP (ho pins s σ H _ I h) fun v s1 ⟨x,H1,I1,r1,ty,q1⟩=>?_)
 obtain ⟨h1,h2⟩:=Lb I1 r1 ty
 exact ⟨T,id,pa,slot,hty,h1,h2,Calls.callWith_builtin rfl (PySem.evalArgs_none (hm pins s1 σ H1 x [] v [] Q I1 r1 .nil q1))⟩
theorem Qv (pa:PlainAttrs T) (slot:Slot T name id) (hty:typeOf (.builtin id)=pure (.type "method_descriptor")) (hm:Wj X id r) (ho:PE X o to) (ha:PA X (e :: es) t)
  (hbase:attributeBase o name X.env (eval o X.env)=eval o X.env:=by rfl)
  (hfew:((backTo cpos (starEach (e :: es) X.env)).all (fun x=>!x.1) && (backToKw cpos (keywordEach [] X.env)).all (fun x=>x.1.isSome)
   && decide ((e :: es).length + ([]:List Keyword).length + (if ([]:List Keyword).isEmpty then 0 else 1) < 30))=true:=by rfl)
  (hline:(apos.endLine == cpos.line)=true:=by rfl) (hs:starEach (e :: es) X.env=(false,eval e X.env) :: starEach es X.env:=by rfl) (hplain:(backTo cpos (starEach es X.env)).any (·.1)=false:=by rfl) :
  PE X (.Call (.Attribute o name apos) (e :: es) [] cpos) (Wt X.K T r to t):=by
 intro pins s σ H Q I h
 refine wpAny_Call_method_late hbase hfew hline rfl (bP (ho pins s σ H _ I h) fun v s1 ⟨x,H1,I1,r1,ty,q1⟩=>?_)
 obtain ⟨h1,h2⟩:=Lb I1 r1 ty
 refine ⟨T,id,pa,slot,hty,h1,h2,?_⟩
 have hA:=ha cpos pins s1 σ H1 _ I1 q1
 rw [hs] at hA ⊢
 refine Calls.callWith_builtin (by show (false || (backTo cpos (starEach es X.env)).any (·.1))=false;rw [hplain] <;> rfl) (Calls.evalArgs_plain ?_)
 exact bP hA fun us s2 ⟨vs,H2,I2,r2,q2⟩=>hm pins s2 σ H2 x vs v us Q I2 r1 r2 q2
end
def Vp (X:Cx) (id:String) (r:V->List V->Hp->VK->Prop):Prop :=
 ∀ (pins:List (Addr × Obj)) (s:Shared) (σ:St) (H:Hp) (x:V) (xs:List V) (v:Value) (us:List Value) (Q:VK),Inv X pins σ H s->RelV x v->Vals xs us->r x xs H Q ->
  wpAny (model X.prog X.w) X.A (call (.builtin id) (v :: us)) (EP X pins σ Q) X.xe s
theorem Vals.one:∀ {x:V} {us:List Value},Vals [x] us->∃ u,us=[u]/\RelV x u
 | _,_,.cons r .nil=>⟨_,rfl,r⟩
theorem Vals.zero:∀ {us:List Value},Vals [] us->us=[]
 | _,.nil=>rfl
theorem Vals.dropLast {xs:List V} {us:List Value} (h:Vals xs us):Vals xs.dropLast us.dropLast:=by
 induction h with
 | nil=>exact .nil
 | cons r t ih =>
  cases t with
  | nil=>exact .nil
  | cons q t'=>exact .cons r ih
theorem Vals.rep {xs:List V} {us:List Value} (h:Vals xs us):∀ k:Nat,Vals (List.replicate k xs).flatten (List.replicate k us).flatten
 | 0=>.nil
 | k + 1=>by
  rw [List.replicate_succ,List.replicate_succ,List.flatten_cons,List.flatten_cons]
  exact Vals.append h (Vals.rep h k)
theorem Hy {α:Type} (l:List α):l.eraseIdx (l.length - 1)=l.dropLast:=by
 induction l with
 | nil=>rfl
 | cons a r ih =>
  cases r with
  | nil=>rfl
  | cons b r =>
   have e:(a :: b :: r).length - 1=((b :: r).length - 1) + 1:=by
    have h1:(a :: b :: r).length=r.length + 2:=rfl
    have h2:(b :: r).length=r.length + 1:=rfl
    omega
   rw [e,List.eraseIdx_cons_succ,ih]
   all_goals rfl
theorem foldl_rep (its:List Value):∀ (k:Nat) (acc:List Value),
  List.foldl (fun x1 x2=>x1++x2) acc.toArray (List.replicate k its.toArray)=(acc++(List.replicate k its).flatten).toArray
 | 0,acc=>by simp
 | k + 1,acc=>by
  have e:acc.toArray++its.toArray=(acc++its).toArray:=by simp
  have e2:(acc++its)++(List.replicate k its).flatten=acc++(List.replicate (k + 1) its).flatten:=by
   rw [List.replicate_succ,List.flatten_cons,List.append_assoc]
  rw [<- e2,<- foldl_rep its k (acc++its),<- e,List.replicate_succ,List.foldl_cons]
section
variable {X:Cx} {pins:List (Addr × Obj)} {σ:St} {H:Hp} {s:Shared} {l b:Addr} {xs ys zs:List V}
theorem Inv.lset {its its':List Value} {n:Nat} {f:Array Value->Array Value} {t':Nat} (I:Inv X pins σ H s) (hH:H l=some (.lst xs))
  (e:s.heap.get? l=some { cls:=.type "list",data:=.seq its.toArray n }) (hf:f its.toArray=its'.toArray) (hv:Vals ys its') (hz:ys.length<=sizeLine) :
  Inv X pins σ (upd H l (.lst ys)) { s with heap:=s.heap.update l (Obj.mapSeq f),toks:=t' }:=by
 have q:=PySem.IsL.update e f
 rw [hf] at q
 refine I.write (x:=l) (e:=l) (by rw [hH];exact trivial) (.inl rfl) (fun b' u hb hu=>(Heap.get?_update_other s.heap (Obj.mapSeq f) (Ne.symm hb)).trans hu) ⟨_,q⟩ ?_
 exact ⟨hz,its',_,hv,q⟩
theorem Inv.lnew {its:List Value} {t':Nat} (I:Inv X pins σ H s) (hv:Vals ys its) (hz:ys.length<=sizeLine) :
  Inv X pins σ (upd H s.heap.objs.size (.lst ys)) { s with heap:=s.heap.push { cls:=.type "list",data:=.seq its.toArray },toks:=t' } :=
 I.laid (fun _ _ q=>Heap.get?_push_of_some _ q) (Nat.le_refl _) ⟨hz,its,0,hv,Heap.get?_push_size _ rfl⟩
theorem Inv.fresh (I:Inv X pins σ H s):H s.heap.objs.size=none:=I.hok.fresh (Nat.le_refl _)
theorem Inv.lstM (I:Inv X pins σ H s) (hH:H l=some (.lst xs)):xs.length<=sizeLine/\∃ (its:List Value) (n:Nat),Vals xs its/\xs.length=its.length/\s.heap.get? l=some { cls:=.type "list",data:=.seq its.toArray n }:=by
 obtain ⟨z,its,n,r,e⟩:=I.hok l _ hH
 exact ⟨z,its,n,r,r.length,e⟩
theorem Cy {n:Nat} (h:n<=sizeLine):Builtin.List.listTooLong n=false:=by
 unfold Builtin.List.listTooLong
 exact decide_eq_false (by omega)
end
section
variable {X:Cx}
def Gw:V->List V->Hp->VK->Prop:=fun x vs H Q=>∃ l xs y,x=.ref l/\vs=[y]/\H l=some (.lst xs)/\xs.length < sizeLine/\Q .non (upd H l (.lst (xs++[y])))
theorem zH:Vp X "list.append" Gw:=by
 intro pins s σ H x vs v us Q I rx rv h
 obtain ⟨l,xs,y,rfl,rfl,hH,hz,q⟩:=h
 cases rx
 obtain ⟨u,rfl,ru⟩:=rv.one
 obtain ⟨z,its,n,r,hl,e⟩:=I.lstM hH
 refine call_meets F.slot_list_append ⟨_,e,rfl⟩ F.entry_list_append (F.args_list_append_2 _ _) (PySem.list_append l its.toArray n u (by rw [List.size_toArray];omega)) ⟨e,?_⟩
 refine ⟨.non,_,I.lset (its':=its++[u]) hH e (by simp) (r.append (.cons ru .nil)) ?_,rfl,q⟩
 rw [List.length_append,List.length_singleton]
 omega
def Ub:V->List V->Hp->VK->Prop:=fun x vs H Q=>∃ l xs y,x=.ref l/\vs=[]/\H l=some (.lst xs)/\xs[xs.length - 1]?=some y/\Q y (upd H l (.lst xs.dropLast))
theorem U1:Vp X "list.pop" Ub:=by
 intro pins s σ H x vs v us Q I rx rv h
 obtain ⟨l,xs,y,rfl,rfl,hH,hy,q⟩:=h
 cases rx
 have hus:=rv.zero
 subst hus
 obtain ⟨z,its,n,r,hl,e⟩:=I.lstM hH
 obtain ⟨u,hu,ru⟩:=r.get hy
 have hy':its.toArray[its.toArray.size - 1]?=some u:=by
  show its.toArray[its.length - 1]?=some u
  rw [<- Array.getElem?_toList,<- hl]
  exact hu
 refine call_meets F.slot_list_pop ⟨_,e,rfl⟩ F.entry_list_pop (F.args_list_pop_1 _) (MeetsSeq.list_pop_last l its.toArray n u hy' (by rw [List.size_toArray];omega)) ⟨e,?_⟩
 refine ⟨y,_,I.lset (its':=its.dropLast) hH e ?_ r.dropLast ?_,ru,q⟩
 ·show its.toArray.eraseIdxIfInBounds (its.toArray.size - 1)=its.dropLast.toArray
  rw [List.size_toArray,List.eraseIdxIfInBounds_toArray,Hy]
 ·rw [List.length_dropLast]
  omega
def SR:R2:=fun x y H Q=>∃ l k xs,x=.ref l/\y=.int k/\H l=some (.lst xs)/\-(2 ^ 63)<=k/\k < 2 ^ 63/\xs.length * k.toNat<=sizeLine /\
 ∀ p,H p=none->Q (.ref p) (upd H p (.lst (List.replicate k.toNat xs).flatten))
theorem len_rep {α:Type} (xs:List α) (k:Nat):(List.replicate k xs).flatten.length=k * xs.length:=by
 induction k with
 | zero=>simp
 | succ k ih=>rw [List.replicate_succ,List.flatten_cons,List.length_append,ih,Nat.succ_mul,Nat.add_comm]
theorem SO:cV X (binaryOp .Mult) SR:=by
 intro pins s σ H x y v u Q I rx ry h
 obtain ⟨l,k,xs,rfl,rfl,hH,h1,h2,hz,q⟩:=h
 cases rx
 obtain ⟨t,rfl⟩:=ry
 obtain ⟨z,its,n,r,hl,e⟩:=I.lstM hH
 have hlen:its.toArray.size * k.toNat<=sizeLine:=by rw [List.size_toArray,<- hl];exact hz
 have hcap:¬ its.toArray.size * k.toNat > (2 ^ 63 - 1) / 8:=by
  have:(sizeLine:Nat)<=(2 ^ 63 - 1) / 8:=by decide
  omega
 have hfit:¬ (!Builtin.List.listFitsIndex k)=true:=by
  rw [fitsIndex_both h1 h2]
  exact Bool.false_ne_true
 have hlong:¬ Builtin.List.listTooLong (its.toArray.size * k.toNat)=true:=by
  rw [Cy hlen]
  exact Bool.false_ne_true
 have hnew:List.foldl (fun x1 x2=>x1++x2) #[] (List.replicate (if its.toArray.isEmpty=true then 0 else k.toNat) its.toArray)=(List.replicate k.toNat its).flatten.toArray:=by
  have f0:∀ m:Nat,List.foldl (fun x1 x2=>x1++x2) #[] (List.replicate m its.toArray)=(List.replicate m its).flatten.toArray:=fun m=>by
   have:=foldl_rep its m []
   rw [List.nil_append] at this
   exact this
  rw [f0]
  cases its with
  | nil=>simp
  | cons a r'=>rw [if_neg (by simp)]
 refine wpAny_binaryOp_repeat_ref (T:="list") (U:="int") (by decide) ⟨_,e,rfl⟩ (fun s'=>typeIs_int s' k t) noFill_list_mul F.fills_int_mul F.slot_int_rmul repeat_list F.slot_int_index.lookup
  (call_meets F.slot_int_rmul (typeIs_int s k t) F.entry_int_rmul (F.args_int_rmul_2 _ _) (int___rmul___int_list k t l its.toArray n)
   ⟨e,rfl,⟨_,e,rfl⟩,call_meets F.slot_list_mul ⟨_,e,rfl⟩ F.entry_list_mul (F.args_list_mul_2 _ _) (AutoListH.list___mul___list_int_3 l its.toArray n k t hfit hcap hlong) ⟨e,?_⟩⟩)
 rw [hnew]
 exact ⟨.ref _,_,I.lnew (t':=s.toks) (r.rep k.toNat) (by rw [len_rep,Nat.mul_comm];exact hz),rfl,q _ I.fresh⟩
end
section
variable {prog:Program} {w:World} {A:Around} {E:Value->Shared->Prop} {s:Shared}
end
section
variable {X:Cx}
end
end L2
namespace Att
open PySem PySem.W PySem.Calls PyProof.Rows
theorem xA {P:Params} {h:Heap}:∀ (ns:List Int) (vs:List Value),WellAll P h vs (ns.map WData.int)->IntsAre vs ns:=by
 intro ns
 induction ns with
 | nil =>
  intro vs w
  rw [List.map_nil] at w
  cases w
  exact .nil
 | cons n ns ih =>
  intro vs w
  rw [List.map_cons] at w
  cases w with
  | cons a b =>
   cases a
   exact .cons _ _ (ih _ b)
theorem LQ {l:OpenLaw} {n:Nat} (hn:l.most=some n) {P:Params} {h:Heap} {args:List WData} {vals:List Value}
  (hpre:l.row.toRowW.claim.pre args=true) (hwl:WellAll P h vals args) :
  ∃ a vs ns,vals=[Value.ref a]/\args=[WData.list (ns.map WData.int)]/\h.get? a=some { cls:=.type "list",data:=.seq vs.toArray }/\IntsAre vs ns/\ns.length<=n:=by
 have hsh:WShape.hasAll [] args [.list .int]=true:=(pre_splitW hpre).1
 have hc:l.pre.holds [] { args:=args }=true:=(pre_splitW hpre).2
 obtain ⟨d,r,rfl,h1,h2⟩:=hasAllW_cons hsh
 obtain rfl:=hasAllW_nil h2
 obtain ⟨xs,rfl,h3⟩:=hasW_list h1
 obtain ⟨ns,rfl⟩:=items_int h3
 have hlen:ns.length<=n:=by
  unfold OpenLaw.pre at hc
  have h4:(WTm.not (.lt (.lit (.int (n:Int))) (.len (.arg 0)))).holds [] { args:=[.list (ns.map .int)] }=true:=by
   have h4:=(holds_andW hc).1
   rw [hn] at h4
   exact h4
  have h5:=condW_of h4 (w_not (w_lt w_lit (w_len_list (w_arg rfl))))
  rw [List.length_map] at h5
  refine Nat.le_of_not_lt fun q=>?_
  have q':(n:Int) < ((ns.length:Nat):Int):=by omega
  first
   | (rw [decide_eq_true q'] at h5;exact absurd h5 (by decide))
   | (simp at h5;omega)
 cases hwl with
 | cons w1 w2 =>
  cases w2
  cases w1 with
  | list ho hall=>exact ⟨_,_,ns,rfl,rfl,ho,xA ns _ hall,hlen⟩
theorem NH (l:OpenLaw) (args:List WData):l.row.toRowW.claim.post args (.bool true) args=true :=
 postW_of (r:=l.row.toRowW) (X:=(true == true))
  (show WShape.has [] (.bool true) .bool=true by first | rfl | decide | simp [WShape.has,WShape.arms,WShape.armsAll])
  (show (WTm.eq .res (.lit (.bool true))).value [] { args:=args,res:=some (.bool true),after:=args }=some (.bool (true == true)) from w_eq_bool (w_res rfl) w_lit) rfl
theorem attach_call {l:OpenLaw} {n:Nat} {q:Program} {loose:List Str} {XP:(Str->Option Value)->Heap->Prop} {YP:World->Heap->Prop} {d:DefRec}
  (hn:l.most=some n) (hdf:d.params.defaults=[])
  (call:∀ (w:World) (s₀ s₁:Shared) (mg mb:Str->Option Value) (fa:Addr) (o:Obj) (pm cd doc:Value) (a:Addr) (vs:List Value) (ns:List Int),
   Ground q loose [] XP w s₀ mg mb s₁.heap->YP w s₁.heap ->
   s₁.heap.get? fa=some o->o.data=.func (docDef d.name d.params d.body d.scope pm cd doc)->s₁.heap.CodeRec cd d.name->mg d.name=some (.ref fa) ->
   s₁.heap.get? a=some { cls:=.type "list",data:=.seq vs.toArray }->IntsAre vs ns->ns.length<=n->s₁.gens=#[] ->
   codeAny (model l.prog w) callerA (.call (.ref fa) ⟨[.ref a],[]⟩) (fun r s'=>r=.ok (.ret (.bool true))/\OldK s₁.heap s'.heap/\s'.os=s₁.os/\AllBare s'.gens) s₁) :
  WalkO q loose XP YP l.row.toRowW d [] (fun f vs=>PySem.call f vs):=by
 intro w s₀ s₁ mg mb G Y fa o pm cd doc dV kV ho hd hcd hD hmg hg args vals as hpre hlay hrd hwl hlo
 obtain rfl:dV=.none:=Dflts.none hD hdf
 obtain rfl:kV=.none:=Dflts.noKw hD
 obtain ⟨a,vs,ns,rfl,rfl,hobj,hints,hlen⟩:=LQ hn hpre hwl
 refine enter_call (codeAny_mono (call w s₀ s₁ mg mb fa o pm cd doc a vs ns G Y ho (fd_plain hd) hcd hmg hobj hints hlen hg) fun r s' hq=>?_)
 obtain ⟨rfl,h2,h3,h4⟩:=hq
 exact ⟨.inl ⟨.bool true,.bool true,[],rfl,fun _=>rfl,.bool true,NH l _,fun _=>⟨List.Pairwise.nil,fun _ hm=>(nomatch hm)⟩⟩,h2,h3,h4⟩
section
variable {prog:Program} {w:World} {A:Around} {E:Value->Shared->Prop} {s:Shared} {K:Frag}
end
end Att
namespace L2
open PySem PySem.Spec PyProof.Rows
theorem Ad:∀ {vs:List Value} {ns:List Int},IntsAre vs ns->Vals (ns.map V.int) vs
 | _,_,.nil=>.nil
 | _,_,.cons n t h=>.cons ⟨t,rfl⟩ (Ad h)
def OY (H:Hp):Prop:=∀ b,H b=none\/∃ o xs,H b=some (.frz o (.lst xs))
theorem ON {P:Program} {w:World} {K:PySem.W.Frag} {mg mb:Str->Option Value} {CX:sA} {k:Nat} {fa a:Addr} {fd:FuncData} {x:Str} {sp:Sp} {s₁:Shared} {vs:List Value} {ns:List Int}
  (KX:K.In s₁.heap) (hns:s₁.heap.Ns mainGlobals mg) (hb:s₁.heap.Ns builtinsNs mb) (hbb:∀ x:Str,x≠"__name__"->mb x=bootBuiltins x) (hlim:s₁.heap.NoLimit) (hg:s₁.gens=#[])
  (ha:s₁.heap.get? a=some { cls:=.type "list",data:=.seq vs.toArray }) (hi:IntsAre vs ns) (hl:ns.length<=sizeLine) (hr:cS k callerA)
  (F:∀ base:Heap,K.In base->base.Ns mainGlobals mg->dX P w K mg base CX k fa fd [x] sp) (hbind:∀ (s:Shared) (u:Value),BindsTo s fd ⟨[u],[]⟩ [(x,u)])
  (hsp:∀ H:Hp,OY H->dM K H a (ns.map V.int)->sp [.ref a] H (fun v _=>v=.bl true) fun _ _ _=>False)
  (hCX:∀ H e s',CX [] H s₁ (fun _ _ _=>False) e s'->False) :
  codeAny (model P w) callerA (.call (.ref fa) ⟨[.ref a],[]⟩) (fun r s'=>r=.ok (.ret (.bool true))/\OldK s₁.heap s'.heap/\s'.os=s₁.os/\AllBare s'.gens) s₁:=by
 have rv:=Ad hi
 have lenV:=hi.length
 have core:∀ H:Hp,OY H->dM K H a (ns.map V.int)->eE P w H s₁.heap->(∀ b,H b≠none->b=a)->(H a≠none->K.lookup a=none) ->
   codeAny (model P w) callerA (.call (.ref fa) ⟨[.ref a],[]⟩) (fun r s'=>r=.ok (.ret (.bool true))/\OldK s₁.heap s'.heap/\s'.os=s₁.os/\AllBare s'.gens) s₁:=by
  intro H hO hS hok hA hK
  have base_of:∀ {b:Addr} {o:Obj},s₁.heap.get? b=some o->H b=none->(qR s₁.heap H).get? b=some o:=fun e n=>Pd e n
  have noA:∀ {b:Addr} {o:Obj} {es:Array DictEntry} {ep:Nat},s₁.heap.get? b=some o->o.data=.dict es ep->H b=none:=fun {b o es ep} e d=>by
   cases q:H b with
   | none=>rfl
   | some u =>
    have e':b=a:=hA b (by rw [q];simp)
    subst e'
    rw [ha] at e;cases e
    have d':Data.seq vs.toArray _=Data.dict es ep:=d
    cases d'
  have nsK:∀ {b:Addr} {m:Str->Option Value},s₁.heap.Ns b m->(qR s₁.heap H).Ns b m:=fun {b m} ⟨o,es,ep,e,d,r⟩=>⟨o,es,ep,base_of e (noA e d),d,r⟩
  have hKb:K.In (qR s₁.heap H):=fun b o e=>base_of (KX b o e) (by
   cases q:H b with
   | none=>rfl
   | some u =>
    have e':b=a:=hA b (by rw [q];simp)
    subst e'
    rw [hK (by rw [q];simp)] at e;cases e)
  have hM:Mod K mg (qR s₁.heap H):=⟨hKb,nsK hns,⟨mb,nsK hb,hbb⟩,let ⟨mc,h1,h2⟩:=hlim;⟨mc,nsK h1,h2⟩⟩
  have e0:vW P w K mg (qR s₁.heap H) callerA [] s₁ H:=⟨rfl,hM,fun b o e=>Ra e,Nat.le_of_eq (MF _ _),trivial,fun b hb=>absurd (show b∈([]:List Addr) from hb) (by simp),hok,.of_eq hg⟩
  refine codeAny_mono ((F _ hKb (nsK hns)).run callerA [] s₁ H ⟨[.ref a],[]⟩ [.ref a] [.ref a] _ _ hr e0 (hbind s₁ (.ref a)) (.cons rfl .nil) (hsp H hO hS)) fun r s' h=>?_
  cases r with
  | error e=>exact (hCX H e s' h).elim
  | ok fl =>
   cases fl with
   | next=>exact False.elim h
   | brk=>exact False.elim h
   | cont=>exact False.elim h
   | ret u =>
    obtain ⟨v,H',os,bare,un,hok',r',q⟩:=h
    have q':v=.bl true:=q
    subst q'
    obtain rfl:u=Value.bool true:=r'
    refine ⟨rfl,OldK.of_keep fun b o e=>?_,os,bare⟩
    cases q:H b with
    | none=>exact un.keep b o e q (by intro z;exact absurd (show b∈([]:List Addr) from z) (by simp)) (by simp)
    | some u =>
     rcases hO b with z | ⟨ob,xs,z⟩
     ·rw [q] at z;cases z
     ·have z2:=un.frzs b ob _ z
      obtain ⟨e1,_⟩:=hok b _ z
      obtain ⟨e2,_⟩:=hok' b _ z2
      rw [e] at e1;cases e1
      exact e2
 cases hk:K.lookup a with
 | some o =>
  have e:=KX a o hk
  rw [ha] at e
  cases e
  refine core (fun _=>none) (fun _=>.inl rfl) (.inr ⟨_,vs.toArray,_,hk,rfl,rfl,rfl,by rw [List.size_toArray,lenV];exact hl,by simpa using rv⟩) (fun b u z=>by have z':(none:Option HO)=some u:=z;cases z') (fun b z=>absurd rfl z) fun z=>absurd rfl z
 | none =>
  refine core (fun b=>if b=a then some (.frz { cls:=.type "list",data:=.seq vs.toArray } (.lst (ns.map V.int))) else none) (fun b=>?_) (.inl (.inr ⟨{ cls:=.type "list",data:=.seq vs.toArray },if_pos rfl⟩)) (fun b u z=>?_) (fun b z=>?_) fun _=>hk
  ·by_cases hb:b=a
   ·exact .inr ⟨_,_,if_pos hb⟩
   ·exact .inl (if_neg hb)
  ·by_cases hb:b=a
   ·have z':=(if_pos hb).symm.trans z
    cases z'
    subst hb
    exact ⟨ha,by rw [List.length_map];exact hl,vs,_,rv,ha⟩
   ·have z':=(if_neg hb).symm.trans z
    cases z'
  ·by_cases hb:b=a
   ·exact hb
   ·exact absurd (if_neg hb) z
theorem Rv {l:PySem.W.OpenLaw} {n k:Nat} {q:Program} {loose:List Str} {XP:(Str->Option Value)->Heap->Prop} {YP:World->Heap->Prop} {d:DefRec} {K:Params->PySem.W.Frag} {CX:World->sA} {sp:World->Sp} {x:Str}
  (hn:l.most=some n) (hn2:n<=sizeLine) (hdf:d.params.defaults=[]) (hr:cS k callerA)
  (hY:∀ (w:World) (h:Heap),YP w h->(K w.params).In h)
  (F:∀ (w:World) (mg:Str->Option Value) (fa:Addr) (h:Heap),(K w.params).In h->h.Ns mainGlobals mg->mg d.name=some (.ref fa) ->
   ∃ fd:FuncData,(∀ (s:Shared) (u:Value),BindsTo s fd ⟨[u],[]⟩ [(x,u)]) /\
    ∀ base:Heap,(K w.params).In base->base.Ns mainGlobals mg->dX l.prog w (K w.params) mg base (CX w) k fa fd [x] (sp w))
  (hsp:∀ (w:World) (H:Hp) (a:Addr) (ns:List Int),ns.length<=n->OY H->dM (K w.params) H a (ns.map V.int)->sp w [.ref a] H (fun v _=>v=.bl true) fun _ _ _=>False)
  (hCX:∀ (w:World) (H:Hp) (s:Shared) (e:Value) (s':Shared),CX w [] H s (fun _ _ _=>False) e s'->False) :
  PySem.W.WalkO q loose XP YP l.row.toRowW d [] (fun f vs=>PySem.call f vs):=by
 refine Att.attach_call hn hdf fun w s₀ s₁ mg mb fa o pm cd doc a vs ns G Y ho hd hcd hmg hobj hints hlen hg=>?_
 have KX:=hY w _ Y
 obtain ⟨fd,hb,hF⟩:=F w mg fa _ KX G.T.g hmg
 exact ON KX G.T.g G.T.b G.T.builtins G.T.nolimit hg hobj hints (Nat.le_trans hlen hn2) hr hF hb (fun H hO hS=>hsp w H a ns hlen hO hS) fun H e s'=>hCX w H s₁ e s'
end L2
namespace L2
open PySem PySem.Spec PyProof.Rows
def bC (s:Stmt):Arguments:=match s with
 | .FunctionDef _ a _ _ _ _ _ _ _ _=>a
 | _=>{ posonlyargs:=[],args:=[],vararg:=none,kwonlyargs:=[],kw_defaults:=[],kwarg:=none,defaults:=[] }
def bA (s:Stmt):List Stmt:=match s with
 | .FunctionDef _ _ b _ _ _ _ _ _ _=>b
 | _=>[]
def aF (s:Stmt):Scope:=match s with
 | .FunctionDef _ _ _ _ _ _ sc _ _ _=>sc
 | _=>{ kind:=.function,names:=[],isGenerator:=false,isCoroutine:=false }
abbrev j6:sA:=fun _ _ _ _ _ _=>False
abbrev E0:XK:=fun _ _ _=>False
theorem Qn {X:Cx}:Passes j6 X E0:=fun _ _ _ _ _ _ _ h=>h.elim
structure b9 (K:PySem.W.Frag) (x qual:Str) (st:Stmt) (f:Addr) (fd:FuncData):Prop where
 ex:∃ (oc:Value) (od:Option Addr) (kV doc pm:Value) (an:Option Addr) (cdv ct:Value) (osl:Array (Option Value)),
  fd=PySem.W.fnOf x qual (bC st) (bA st) (aF st) .none kV doc pm an cdv ct/\K.lookup f=some ⟨oc,od,.func fd,osl⟩/\PySem.W.codeIn K cdv qual=true
 kp:PySem.W.keepIn K (.ref f)=true
section
variable {P:Program} {w:World} {K:PySem.W.Frag} {mg:Str->Option Value} {base:Heap}
theorem b9.ok {x qual:Str} {st:Stmt} {f:Addr} {fd:FuncData} {N ps:List Str} {k:Nat} {sp:Sp} (F:b9 K x qual st f fd) (S:bB N ps (aF st)) (len:∀ vs H Q E,sp vs H Q E->vs.length=ps.length)
  (hbody:∀ (cdv:Value) (A:Around) (outer:List Env) (s:Shared) (H:Hp) (vs:List V) (Q:VK) (E:XK),cS k (A.deeper (envOfC qual (aF st) s.heap.objs.size f cdv))->sp vs H Q E ->
   ∃ t,mL (mY j6 P w K mg base N qual (aF st) f cdv A outer s H E).nox (bA st) t/\t { nx:=fun _ H'=>Q .non H',rt:=Q } (start N vs) H):dX P w K mg base j6 (k + 1) f fd ps sp:=by
 obtain ⟨oc,od,kV,doc,pm,an,cdv,ct,osl,rfl,lk,hcd⟩:=F.ex
 refine VF lk hcd S len fun A outer s H vs Q E hr hsp=>?_
 obtain ⟨t,h,q⟩:=hbody cdv A outer s H vs Q E hr hsp
 exact ⟨t,h.nox,q⟩
theorem b9.binds {x qual:Str} {st:Stmt} {f:Addr} {fd:FuncData} {ps:List Str} (F:b9 K x qual st f fd)
  (h:∀ (kV doc pm:Value) (an:Option Addr) (cdv ct:Value) (us:List Value),us.length=ps.length->bindArgs (PySem.W.fnOf x qual (bC st) (bA st) (aF st) .none kV doc pm an cdv ct) ⟨us,[]⟩=pure (ps.zip us)):Binds K fd ps []:=by
 obtain ⟨oc,od,kV,doc,pm,an,cdv,ct,osl,rfl,lk,hcd⟩:=F.ex
 exact .all (h kV doc pm an cdv ct)
theorem bO {x qual:Str} {st:Stmt} {f:Addr} {oc:Value} {od an:Option Addr} {osl:Array (Option Value)} {kV doc pm cdv ct:Value} (l:K.lookup f=some ⟨oc,od,.func (PySem.W.fnOf x qual (bC st) (bA st) (aF st) .none kV doc pm an cdv ct),osl⟩)
  (c:PySem.W.codeIn K cdv qual=true) (k:PySem.W.keepIn K (.ref f)=true):b9 K x qual st f (PySem.W.fnOf x qual (bC st) (bA st) (aF st) .none kV doc pm an cdv ct):=⟨⟨oc,od,kV,doc,pm,an,cdv,ct,osl,rfl,l,c⟩,k⟩
end
section
variable {X:Cx}
end
theorem g0 {c A B:Prop} [Decidable c] (h1:c->A) (h2:¬ c->B):if c then A else B:=by
 by_cases h:c
 ·rw [if_pos h]
  exact h1 h
 ·rw [if_neg h]
  exact h2 h
end L2
namespace U2
open PySem L2
inductive U where
 | non | bl (b:Bool) | int (i:Int) | str (x:Str) | tup (us:List U) | lst (us:List U) | ref (a:Addr) | ty (n:String) | dic (ks:List (List Key)) (tk:Bool) (us:List U)
inductive MO where
 | lst (us:List U) | dK (kvs:List (Key × U)) | dT (kvs:List (List Key × U)) | dN (kvs:List ((List Key × Key) × U)) | tbl (q:Str)
abbrev aI:=Addr->Option MO
def mup (M:aI) (a:Addr) (o:MO):aI:=fun b=>if b=a then some o else M b
theorem aX {M:aI} {a:Addr} {o:MO}:mup M a o a=some o:=by unfold mup;rw [if_pos rfl]
theorem cB {M:aI} {a b:Addr} {o:MO} (h:b≠a):mup M a o b=M b:=by unfold mup;rw [if_neg h]
theorem bU {M:aI} {a:Addr} {o u:MO}:mup (mup M a o) a u=mup M a u:=by
 funext b;unfold mup;split <;> rfl
def KT (K:PySem.W.Frag) (a:Addr) (xs:List V):Prop :=
 ∃ (o:Obj) (its:Array Value) (n:Nat),K.lookup a=some o/\o.cls=.type "tuple"/\o.dict=none/\o.data=.seq its n/\its.size<=sizeLine/\Vals xs its.toList
def KL (K:PySem.W.Frag) (a:Addr) (xs:List V):Prop :=
 ∃ (o:Obj) (its:Array Value) (n:Nat),K.lookup a=some o/\o.cls=.type "list"/\o.dict=none/\o.data=.seq its n/\its.size<=sizeLine/\Vals xs its.toList
def w6 (H:Hp) (a:Addr) (ks:List (List Key)) (tk:Bool) (vs:List V):Prop:=match tk with
 | true=>∃ ws,Rd H a (.dT ws)/\ks=ws.map (·.1)/\vs=ws.map (·.2)
 | false=>∃ ws,Rd H a (.dK ws)/\ks=ws.map (fun p=>[p.1])/\vs=ws.map (·.2)
mutual
def aY (K:PySem.W.Frag) (H:Hp) (M:aI):U->V->Prop
 | .non,v=>v=.non
 | .bl b,v=>v=.bl b
 | .int i,v=>v=.int i
 | .str x,v=>v=.str x
 | .ty n,v=>v=.ty n
 | .ref a,v=>v=.ref a
 | .tup us,v=>∃ a vs,v=.ref a/\(M a=none/\H a=some (.tup vs))/\aS K H M us vs
 | .dic ks tk us,v=>∃ a vs,v=.ref a/\M a=none/\w6 H a ks tk vs/\aS K H M us vs
 | .lst us,v=>∃ a vs,v=.ref a/\((M a=none/\Rd H a (.lst vs))\/KL K a vs)/\aS K H M us vs
def aS (K:PySem.W.Frag) (H:Hp) (M:aI):List U->List V->Prop
 | [],vs=>vs=[]
 | u :: us,vs=>∃ v vs',vs=v :: vs'/\aY K H M u v/\aS K H M us vs'
end
def NO:HO->Bool
 | .dK _=>true
 | .dT _=>true
 | _=>false
def bE (H:Hp) (M:aI) (H1:Hp) (M1:aI):Prop:=∀ b o,H b=some o->M b=none->(H1 b=some o\/(NO o=true/\∃ ob,H1 b=some (.frz ob o)))/\M1 b=none
theorem bE.by' {H H1:Hp} {M M1:aI} (h:∀ b o,H b=some o->M b=none->H1 b=some o/\M1 b=none):bE H M H1 M1:=fun b o e m=>⟨.inl (h b o e m).1,(h b o e m).2⟩
theorem bE.to {H H1:Hp} {M M1:aI} (st:bE H M H1 M1) {b:Addr} {o:HO} (e:H b=some o) (m:M b=none) (n:NO o=false:=by rfl):H1 b=some o/\M1 b=none:=by
 obtain ⟨h | ⟨h,_⟩,m1⟩:=st b o e m
 ·exact ⟨h,m1⟩
 ·rw [n] at h;cases h
theorem bE.refl (H:Hp) (M:aI):bE H M H M:=.by' fun _ _ h m=>⟨h,m⟩
theorem bE.trans {H H1 H2:Hp} {M M1 M2:aI} (a:bE H M H1 M1) (b:bE H1 M1 H2 M2):bE H M H2 M2:=fun c o h m=>by
 obtain ⟨h1 | ⟨d,ob,h1⟩,m1⟩:=a c o h m
 ·exact b c o h1 m1
 ·obtain ⟨h2,m2⟩:=b.to h1 m1
  exact ⟨.inr ⟨d,ob,h2⟩,m2⟩
theorem Rd.stp {H H1:Hp} {M M1:aI} {a:Addr} {u:HO} (st:bE H M H1 M1) (m:M a=none) (h:Rd H a u):M1 a=none/\Rd H1 a u:=by
 rcases h with h | ⟨o,h⟩
 ·obtain ⟨x | ⟨_,ob,x⟩,y⟩:=st a _ h m
  ·exact ⟨y,.inl x⟩
  ·exact ⟨y,.inr ⟨ob,x⟩⟩
 ·obtain ⟨x,y⟩:=st.to h m;exact ⟨y,.inr ⟨o,x⟩⟩
theorem w6.stp {H H1:Hp} {M M1:aI} {a:Addr} {ks:List (List Key)} {tk:Bool} {vs:List V} (st:bE H M H1 M1) (m:M a=none) (h:w6 H a ks tk vs):M1 a=none/\w6 H1 a ks tk vs:=by
 cases tk with
 | true=>obtain ⟨ws,e,r⟩:=h;exact ⟨(Rd.stp st m e).1,ws,(Rd.stp st m e).2,r⟩
 | false=>obtain ⟨ws,e,r⟩:=h;exact ⟨(Rd.stp st m e).1,ws,(Rd.stp st m e).2,r⟩
mutual
theorem aY.stp {K:PySem.W.Frag} {H H1:Hp} {M M1:aI} (st:bE H M H1 M1):∀ {u:U} {v:V},aY K H M u v->aY K H1 M1 u v
 | .non,_,h=>by simpa only [aY] using h
 | .bl _,_,h=>by simpa only [aY] using h
 | .int _,_,h=>by simpa only [aY] using h
 | .str _,_,h=>by simpa only [aY] using h
 | .ty _,_,h=>by simpa only [aY] using h
 | .ref _,_,h=>by simpa only [aY] using h
 | .tup us,_,h=>by
  simp only [aY] at h ⊢
  obtain ⟨a,vs,e,h1,h2⟩:=h
  refine ⟨a,vs,e,?_,aS.stp st h2⟩
  obtain ⟨m,r⟩:=h1
  exact ⟨(st.to r m).2,(st.to r m).1⟩
 | .dic ks tk us,_,h=>by
  simp only [aY] at h ⊢
  obtain ⟨a,vs,e,m,h1,h2⟩:=h
  have q:=w6.stp st m h1
  exact ⟨a,vs,e,q.1,q.2,aS.stp st h2⟩
 | .lst us,_,h=>by
  simp only [aY] at h ⊢
  obtain ⟨a,vs,e,h1,h2⟩:=h
  refine ⟨a,vs,e,?_,aS.stp st h2⟩
  rcases h1 with ⟨m,r⟩ | k
  ·exact .inl (Rd.stp st m r)
  ·exact .inr k
theorem aS.stp {K:PySem.W.Frag} {H H1:Hp} {M M1:aI} (st:bE H M H1 M1):∀ {us:List U} {vs:List V},aS K H M us vs->aS K H1 M1 us vs
 | [],_,h=>by simpa only [aS] using h
 | u :: us,_,h=>by
  simp only [aS] at h ⊢
  obtain ⟨v,vs',e,h1,h2⟩:=h
  exact ⟨v,vs',e,aY.stp st h1,aS.stp st h2⟩
end
theorem bE.less {H:Hp} {M M1:aI} (h:∀ b,M b=none->M1 b=none):bE H M H M1:=.by' fun b o e m=>⟨e,h b m⟩
def qZ {κ:Type} (K:PySem.W.Frag) (H:Hp) (M:aI):List (κ × U)->List (κ × V)->Prop:=Paired fun p q=>p.1=q.1/\aY K H M p.2 q.2
theorem qZ.stp {κ:Type} {K:PySem.W.Frag} {H H1:Hp} {M M1:aI} (st:bE H M H1 M1):∀ {us:List (κ × U)} {vs:List (κ × V)},qZ K H M us vs->qZ K H1 M1 us vs
 | _,_,.nil=>.nil
 | _,_,.cons h t=>.cons ⟨h.1,h.2.stp st⟩ (qZ.stp st t)
def xG (K:PySem.W.Frag) (H:Hp) (M:aI) (a:Addr):MO->Prop
 | .lst us=>∃ vs,H a=some (.lst vs)/\aS K H M us vs
 | .dK kvs=>∃ ws,H a=some (.dK ws)/\qZ K H M kvs ws
 | .dT kvs=>∃ ws,H a=some (.dT ws)/\qZ K H M kvs ws
 | .dN kvs=>∃ ws,H a=some (.dN ws)/\qZ K H M kvs ws
 | .tbl q=>(∀ b,M b=some (.tbl q)->b=a)/\∃ ps,H a=some (.tbl ps)/\TriplesOk ps.toList/\∀ pos c,codeAmong pos ps.toList=some c->∃ c' oc vs t,c=.ref c'/\H c'=some (.frz oc (.own 0))/\M c'=none/\oc.data=.fields vs/\vs[1]?=some (.str q t)
def RelM (K:PySem.W.Frag) (H:Hp) (M:aI):Prop:=∀ a mo,M a=some mo->xG K H M a mo
theorem xG.stp {K:PySem.W.Frag} {H H1:Hp} {M M1:aI} {a:Addr} {mo:MO} (hu:∀ b q,M1 b=some (.tbl q)->M b=some (.tbl q)) (st:bE H M H1 M1) (e:H1 a=H a) (h:xG K H M a mo):xG K H1 M1 a mo:=by
 cases mo with
 | lst us=>obtain ⟨vs,x,y⟩:=h;exact ⟨vs,e.trans x,y.stp st⟩
 | dK us=>obtain ⟨vs,x,y⟩:=h;exact ⟨vs,e.trans x,y.stp st⟩
 | dT us=>obtain ⟨vs,x,y⟩:=h;exact ⟨vs,e.trans x,y.stp st⟩
 | dN us=>obtain ⟨vs,x,y⟩:=h;exact ⟨vs,e.trans x,y.stp st⟩
 | tbl q =>
  obtain ⟨un,ps,x,y,z⟩:=h
  refine ⟨fun b hb=>un b (hu b q hb),ps,e.trans x,y,fun pos c hc=>?_⟩
  obtain ⟨c',oc,vs,t,h1,h2,h3,h4⟩:=z pos c hc
  exact ⟨c',oc,vs,t,h1,(st.to h2 h3).1,(st.to h2 h3).2,h4⟩
theorem RelM.ex {K:PySem.W.Frag} {H:Hp} {M:aI} (r:RelM K H M) {a:Addr} {mo:MO} (h:M a=some mo):∃ o,H a=some o:=by
 have:=r a mo h
 cases mo with
 | lst us=>obtain ⟨vs,x,y⟩:=this;exact ⟨_,x⟩
 | dK us=>obtain ⟨vs,x,y⟩:=this;exact ⟨_,x⟩
 | dT us=>obtain ⟨vs,x,y⟩:=this;exact ⟨_,x⟩
 | dN us=>obtain ⟨vs,x,y⟩:=this;exact ⟨_,x⟩
 | tbl q=>obtain ⟨_,ps,x,_⟩:=this;exact ⟨_,x⟩
theorem RelM.no {K:PySem.W.Frag} {H:Hp} {M:aI} (r:RelM K H M) {a:Addr} (h:H a=none):M a=none:=by
 cases e:M a with
 | none=>rfl
 | some mo=>obtain ⟨o,q⟩:=r.ex e;rw [h] at q;cases q
theorem bE.laid {K:PySem.W.Frag} {H:Hp} {M:aI} {p:Addr} {o:HO} (r:RelM K H M) (h:H p=none):bE H M (upd H p o) M:=.by' fun b u e m=>⟨by rw [bD (bJ e h)];exact e,m⟩
theorem RelM.laid {K:PySem.W.Frag} {H:Hp} {M:aI} {p:Addr} {o:HO} (r:RelM K H M) (h:H p=none):RelM K (upd H p o) M:=fun a mo e=>by
 obtain ⟨u,q⟩:=r.ex e
 exact (r a mo e).stp (fun _ _ z=>z) (bE.laid r h) (bD (bJ q h))
theorem bE.own {K:PySem.W.Frag} {H:Hp} {M:aI} {p:Addr} {o:HO} {mo:MO} (r:RelM K H M) (h:H p=none):bE H M (upd H p o) (mup M p mo):=.by' fun b u e m=>by
 have n:=bJ e h
 exact ⟨by rw [bD n];exact e,by rw [cB n];exact m⟩
theorem RelM.put {K:PySem.W.Frag} {H:Hp} {M:aI} {p:Addr} {o:HO} {mo:MO} (r:RelM K H M) (st:bE H M (upd H p o) (mup M p mo)) (new:xG K (upd H p o) (mup M p mo) p mo) (hm:∀ q,mo≠.tbl q:=by intro q z;cases z):RelM K (upd H p o) (mup M p mo):=fun a m e=>by
 by_cases ha:a=p
 ·subst ha;rw [aX] at e;cases e;exact new
 ·rw [cB ha] at e
  refine (r a m e).stp (fun b q z=>?_) st (bD ha)
  by_cases hb:b=p
  ·subst hb;rw [aX] at z;exact absurd (Option.some.inj z) (hm q)
  ·rw [cB hb] at z;exact z
theorem bE.write {H:Hp} {M:aI} {p:Addr} {o:HO} {mo m0:MO} (h:M p=some m0):bE H M (upd H p o) (mup M p mo):=.by' fun b u e m=>by
 have n:b≠p:=fun z=>by subst z;rw [h] at m;cases m
 exact ⟨by rw [bD n];exact e,by rw [cB n];exact m⟩
section
variable {K:PySem.W.Frag} {H:Hp} {M:aI}
theorem aS.nil:aS K H M [] []:=by simp only [aS]
theorem aS.cons {u:U} {v:V} {us:List U} {vs:List V} (h:aY K H M u v) (t:aS K H M us vs):aS K H M (u :: us) (v :: vs):=by simp only [aS];exact ⟨v,vs,rfl,h,t⟩
theorem aS.length:∀ {us:List U} {vs:List V},aS K H M us vs->us.length=vs.length
 | [],_,h=>by simp only [aS] at h;subst h;rfl
 | u :: us,_,h=>by
  simp only [aS] at h
  obtain ⟨v,vs',rfl,_,t⟩:=h
  simp [aS.length t]
theorem aS.inv_cons {u:U} {us:List U} {vs:List V} (h:aS K H M (u :: us) vs):∃ v vs',vs=v :: vs'/\aY K H M u v/\aS K H M us vs':=by simpa only [aS] using h
theorem aS.inv_nil {vs:List V} (h:aS K H M [] vs):vs=[]:=by simpa only [aS] using h
theorem aS.append:∀ {us ws:List U} {vs zs:List V},aS K H M us vs->aS K H M ws zs->aS K H M (us++ws) (vs++zs)
 | [],_,_,_,h,t=>by cases h.inv_nil;exact t
 | u :: us,_,_,_,h,t=>by
  obtain ⟨v,vs',rfl,a,b⟩:=h.inv_cons
  exact .cons a (aS.append b t)
theorem aS.get:∀ {us:List U} {vs:List V} {i:Nat} {u:U},aS K H M us vs->us[i]?=some u->∃ v,vs[i]?=some v/\aY K H M u v
 | [],_,_,_,_,e=>by simp at e
 | u :: us,_,0,_,h,e=>by
  obtain ⟨v,vs',rfl,a,b⟩:=h.inv_cons
  simp at e;subst e;exact ⟨v,rfl,a⟩
 | u :: us,_,i + 1,_,h,e=>by
  obtain ⟨v,vs',rfl,a,b⟩:=h.inv_cons
  simp at e
  obtain ⟨w,x,y⟩:=aS.get b e
  exact ⟨w,by simpa using x,y⟩
theorem aS.drop:∀ {us:List U} {vs:List V} (n:Nat),aS K H M us vs->aS K H M (us.drop n) (vs.drop n)
 | _,_,0,h=>h
 | [],_,_ + 1,h=>by cases h.inv_nil;exact .nil
 | u :: us,_,n + 1,h=>by
  obtain ⟨v,vs',rfl,a,b⟩:=h.inv_cons
  exact aS.drop n b
theorem aS.take:∀ {us:List U} {vs:List V} (n:Nat),aS K H M us vs->aS K H M (us.take n) (vs.take n)
 | _,_,0,_=>by simp only [List.take_zero];exact .nil
 | [],_,_ + 1,h=>by cases h.inv_nil;exact .nil
 | u :: us,_,n + 1,h=>by
  obtain ⟨v,vs',rfl,a,b⟩:=h.inv_cons
  exact .cons a (aS.take n b)
theorem aS.set {u:U} {v:V} (r:aY K H M u v):∀ {us:List U} {vs:List V} (i:Nat),aS K H M us vs->aS K H M (us.set i u) (vs.set i v)
 | [],_,_,h=>by cases h.inv_nil;exact .nil
 | w :: us,_,0,h=>by
  obtain ⟨z,vs',rfl,a,b⟩:=h.inv_cons
  exact .cons r b
 | w :: us,_,i + 1,h=>by
  obtain ⟨z,vs',rfl,a,b⟩:=h.inv_cons
  exact .cons a (aS.set r i b)
theorem aS.dropLast {us:List U} {vs:List V} (h:aS K H M us vs):aS K H M us.dropLast vs.dropLast:=by
 rw [List.dropLast_eq_take,List.dropLast_eq_take,h.length];exact h.take _
end
abbrev SU:=List (Option U)
abbrev UK:=U->aI->Prop
abbrev UE:=SU->aI->UK->Prop
abbrev UT:=SU->aI->(Bool->aI->Prop)->Prop
abbrev UA:=SU->aI->(List U->aI->Prop)->Prop
structure kT where
 nx:SU->aI->Prop
 rt:UK
 bk:SU->aI->Prop:=fun _ _=>False
 ct:SU->aI->Prop:=fun _ _=>False
abbrev US:=kT->SU->aI->Prop
def cZ (K:PySem.W.Frag) (H:Hp) (M:aI) (σ:St) (τ:SU):Prop:=τ.length=σ.length/\∀ (i:Nat) u,τ[i]?=some (some u)->∃ v,σ[i]?=some (some v)/\aY K H M u v
theorem cZ.stp {K:PySem.W.Frag} {H H1:Hp} {M M1:aI} {σ:St} {τ:SU} (st:bE H M H1 M1) (r:cZ K H M σ τ):cZ K H1 M1 σ τ:=⟨r.1,fun i u e=>let ⟨v,a,b⟩:=r.2 i u e;⟨v,a,b.stp st⟩⟩
theorem cZ.set {K:PySem.W.Frag} {H:Hp} {M:aI} {σ:St} {τ:SU} {i:Nat} {u:U} {v:V} (r:cZ K H M σ τ) (h:aY K H M u v):cZ K H M (σ.set i (some v)) (τ.set i (some u)):=by
 refine ⟨by simp [r.1],fun j w e=>?_⟩
 rw [List.getElem?_set] at e ⊢
 split at e
 ·rename_i hij
  subst hij
  split at e
  ·rename_i hl
   cases e
   rw [if_pos rfl,if_pos (by rw [<- r.1];exact hl)]
   exact ⟨v,rfl,h⟩
  ·cases e
 ·rename_i hij
  rw [if_neg hij]
  exact r.2 j w e
def b6 (K:PySem.W.Frag) (t:TE) (t':UE):Prop:=∀ (σ:St) (τ:SU) (H:Hp) (M:aI) (Q':UK),cZ K H M σ τ->RelM K H M->t' τ M Q' ->
 ∀ Q:VK,(∀ u v M1 H1,bE H M H1 M1->RelM K H1 M1->aY K H1 M1 u v->Q' u M1->Q v H1)->t σ H Q
def i9 (K:PySem.W.Frag) (t:TT) (t':UT):Prop:=∀ (σ:St) (τ:SU) (H:Hp) (M:aI) (Q':Bool->aI->Prop),cZ K H M σ τ->RelM K H M->t' τ M Q' ->
 ∀ Q:Bool->Hp->Prop,(∀ b M1 H1,bE H M H1 M1->RelM K H1 M1->Q' b M1->Q b H1)->t σ H Q
def kD (K:PySem.W.Frag) (t:TA) (t':UA):Prop:=∀ (σ:St) (τ:SU) (H:Hp) (M:aI) (Q':List U->aI->Prop),cZ K H M σ τ->RelM K H M->t' τ M Q' ->
 ∀ Q:List V->Hp->Prop,(∀ us vs M1 H1,bE H M H1 M1->RelM K H1 M1->aS K H1 M1 us vs->Q' us M1->Q vs H1)->t σ H Q
structure BE (K:PySem.W.Frag) (H:Hp) (M:aI) (D:Ends) (D':kT):Prop where
 nx:∀ σ τ H1 M1,bE H M H1 M1->RelM K H1 M1->cZ K H1 M1 σ τ->D'.nx τ M1->D.nx σ H1
 rt:∀ u v H1 M1,bE H M H1 M1->RelM K H1 M1->aY K H1 M1 u v->D'.rt u M1->D.rt v H1
 bk:∀ σ τ H1 M1,bE H M H1 M1->RelM K H1 M1->cZ K H1 M1 σ τ->D'.bk τ M1->D.bk σ H1
 ct:∀ σ τ H1 M1,bE H M H1 M1->RelM K H1 M1->cZ K H1 M1 σ τ->D'.ct τ M1->D.ct σ H1
theorem BE.stp {K:PySem.W.Frag} {H H1:Hp} {M M1:aI} {D:Ends} {D':kT} (d:BE K H M D D') (st:bE H M H1 M1):BE K H1 M1 D D' :=
 ⟨fun σ τ H2 M2 s=>d.nx σ τ H2 M2 (st.trans s),fun u v H2 M2 s=>d.rt u v H2 M2 (st.trans s),fun σ τ H2 M2 s=>d.bk σ τ H2 M2 (st.trans s),fun σ τ H2 M2 s=>d.ct σ τ H2 M2 (st.trans s)⟩
def iY (K:PySem.W.Frag) (t:TS) (t':US):Prop:=∀ (σ:St) (τ:SU) (H:Hp) (M:aI) (D':kT),cZ K H M σ τ->RelM K H M->t' D' τ M->∀ D:Ends,BE K H M D D'->t D σ H
end U2
namespace U2
open PySem L2
abbrev dU:=U->U->aI->UK->Prop
def cO (K:PySem.W.Frag) (H:Hp) (M:aI) (Q':UK) (Q:VK):Prop:=∀ u v M1 H1,bE H M H1 M1->RelM K H1 M1->aY K H1 M1 u v->Q' u M1->Q v H1
theorem cO.stp {K:PySem.W.Frag} {H H1:Hp} {M M1:aI} {Q':UK} {Q:VK} (c:cO K H M Q' Q) (st:bE H M H1 M1):cO K H1 M1 Q' Q:=fun u v M2 H2 s=>c u v M2 H2 (st.trans s)
theorem cO.here {K:PySem.W.Frag} {H:Hp} {M:aI} {Q':UK} {Q:VK} {u:U} {v:V} (c:cO K H M Q' Q) (rm:RelM K H M) (r:aY K H M u v) (q:Q' u M):Q v H:=c u v M H (bE.refl H M) rm r q
def dO (K:PySem.W.Frag) (r:R2) (r':dU):Prop:=∀ (x y:V) (u w:U) (H:Hp) (M:aI) (Q':UK),RelM K H M->aY K H M u x->aY K H M w y->r' u w M Q'->∀ Q:VK,cO K H M Q' Q->r x y H Q
def VN (K:PySem.W.Frag) (r:V->Hp->VK->Prop) (r':U->aI->UK->Prop):Prop:=∀ (x:V) (u:U) (H:Hp) (M:aI) (Q':UK),RelM K H M->aY K H M u x->r' u M Q'->∀ Q:VK,cO K H M Q' Q->r x H Q
def qU (K:PySem.W.Frag) (r:List V->Hp->VK->Prop) (r':List U->aI->UK->Prop):Prop:=∀ (xs:List V) (us:List U) (H:Hp) (M:aI) (Q':UK),RelM K H M->aS K H M us xs->r' us M Q'->∀ Q:VK,cO K H M Q' Q->r xs H Q
def xW (K:PySem.W.Frag) (r:V->List V->Hp->VK->Prop) (r':U->List U->aI->UK->Prop):Prop:=∀ (x:V) (xs:List V) (u:U) (us:List U) (H:Hp) (M:aI) (Q':UK),RelM K H M->aY K H M u x->aS K H M us xs->r' u us M Q'->∀ Q:VK,cO K H M Q' Q->r x xs H Q
section
variable {K:PySem.W.Frag} {H:Hp} {M:aI} {v:V}
theorem aY.non (h:aY K H M .non v):v=.non:=by simpa only [aY] using h
theorem aY.bl {b:Bool} (h:aY K H M (.bl b) v):v=.bl b:=by simpa only [aY] using h
theorem aY.int {i:Int} (h:aY K H M (.int i) v):v=.int i:=by simpa only [aY] using h
theorem aY.str {x:Str} (h:aY K H M (.str x) v):v=.str x:=by simpa only [aY] using h
theorem aY.ty {n:String} (h:aY K H M (.ty n) v):v=.ty n:=by simpa only [aY] using h
theorem aY.ref {a:Addr} (h:aY K H M (.ref a) v):v=.ref a:=by simpa only [aY] using h
theorem aY.tup {us:List U} (h:aY K H M (.tup us) v):∃ a vs,v=.ref a/\fA K H a vs/\aS K H M us vs:=by
 simp only [aY] at h
 obtain ⟨a,vs,e,h1,h2⟩:=h
 refine ⟨a,vs,e,?_,h2⟩
 exact .inl (.inl h1.2)
theorem aY.lst {us:List U} (h:aY K H M (.lst us) v):∃ a vs,v=.ref a/\dM K H a vs/\aS K H M us vs:=by
 simp only [aY] at h
 obtain ⟨a,vs,e,h1,h2⟩:=h
 refine ⟨a,vs,e,?_,h2⟩
 rcases h1 with ⟨_,r⟩ | k
 ·exact .inl r
 ·exact .inr k
theorem kE:aY K H M .non .non:=by simp only [aY]
theorem cL {b:Bool}:aY K H M (.bl b) (.bl b):=by simp only [aY]
theorem cP {i:Int}:aY K H M (.int i) (.int i):=by simp only [aY]
theorem iD {x:Str}:aY K H M (.str x) (.str x):=by simp only [aY]
theorem RI {n:String}:aY K H M (.ty n) (.ty n):=by simp only [aY]
theorem rN {a:Addr}:aY K H M (.ref a) (.ref a):=by simp only [aY]
theorem u9 {a:Addr} {us:List U} {vs:List V} (m:M a=none) (h:H a=some (.tup vs)) (r:aS K H M us vs):aY K H M (.tup us) (.ref a):=by
 simp only [aY];exact ⟨a,vs,rfl,⟨m,h⟩,r⟩
theorem vU {a:Addr} {us:List U} {vs:List V} (m:M a=none) (h:H a=some (.lst vs)) (r:aS K H M us vs):aY K H M (.lst us) (.ref a):=by
 simp only [aY];exact ⟨a,vs,rfl,.inl ⟨m,.inl h⟩,r⟩
theorem cO.tup {Q':UK} {Q:VK} {us:List U} {vs:List V} {p:Addr} (c:cO K H M Q' Q) (rm:RelM K H M) (r:aS K H M us vs) (hp:H p=none) (q:Q' (.tup us) M):Q (.ref p) (upd H p (.tup vs)) :=
 c _ _ M _ (bE.laid rm hp) (rm.laid hp) (u9 (rm.no hp) b8 (r.stp (bE.laid rm hp))) q
def kB (o:Bool) (us:List U) (M:aI) (Q:UK):Prop:=match o with
 | true=>∀ p,M p=none->Q (.ref p) (mup M p (.lst us))
 | false=>Q (.lst us) M
theorem cO.lst {o:Bool} {Q':UK} {Q:VK} {us:List U} {vs:List V} {p:Addr} (c:cO K H M Q' Q) (rm:RelM K H M) (r:aS K H M us vs) (hp:H p=none) (q:kB o us M Q'):Q (.ref p) (upd H p (.lst vs)):=by
 cases o with
 | false=>exact c _ _ M _ (bE.laid rm hp) (rm.laid hp) (vU (rm.no hp) b8 (r.stp (bE.laid rm hp))) q
 | true =>
  have st:bE H M (upd H p (.lst vs)) (mup M p (.lst us)):=bE.own rm hp
  exact c (.ref p) _ _ _ st (rm.put st ⟨vs,b8,r.stp st⟩) rN (q p (rm.no hp))
end
def view (M:aI):U->U
 | .ref a=>match M a with
  | some (.lst us)=>.lst us
  | _=>.ref a
 | u=>u
theorem jA {M:aI} {a:Addr} {us:List U} (h:M a=some (.lst us)):view M (.ref a)=.lst us:=by simp only [view,h]
theorem eB {K:PySem.W.Frag} {H:Hp} {M:aI} {u:U} {v:V} {us:List U} (rm:RelM K H M) (r:aY K H M u v) (h:view M u=.lst us):∃ a vs,v=.ref a/\dM K H a vs/\aS K H M us vs:=by
 cases u with
 | lst ws=>simp only [view] at h;cases h;exact r.lst
 | ref a =>
  simp only [view] at h
  split at h
  ·rename_i ws e
   cases h
   obtain ⟨vs,h1,h2⟩:=rm a _ e
   exact ⟨a,vs,r.ref,.inl (.inl h1),h2⟩
  ·cases h
 | _=>simp [view] at h
section
variable {K:PySem.W.Frag} {t ta tb tc:TE} {t' ta' tb' tc':UE}
def iX (i:Nat):UE:=fun τ M Q=>match τ[i]? with
 | some (some u)=>Q u M
 | _=>False
theorem yM (i:Nat):b6 K (vM i) (iX i):=fun σ τ H M Q' rs rm h Q c=>by
 unfold iX at h
 split at h
 ·rename_i u e
  obtain ⟨v,e2,r⟩:=rs.2 i u e
  exact ⟨v,e2,c u v M H (bE.refl _ _) rm r h⟩
 ·exact h.elim
def uC (u:U):UE:=fun _ M Q=>Q u M
theorem tS {u:U} {v:V} (h:∀ H M,aY K H M u v):b6 K (tC v) (uC u):=fun σ τ H M Q' rs rm q Q c=>c u v M H (bE.refl _ _) rm (h H M) q
theorem GS {i:Int}:b6 K (tC (.int i)) (uC (.int i)):=tS fun _ _=>cP
theorem SW {i:Bool}:b6 K (tC (.bl i)) (uC (.bl i)):=tS fun _ _=>cL
theorem GR {i:Str}:b6 K (tC (.str i)) (uC (.str i)):=tS fun _ _=>iD
theorem RS:b6 K (tC .non) (uC .non):=tS fun _ _=>kE
theorem L6 {n:String}:b6 K (tC (.ty n)) (uC (.ty n)):=tS fun _ _=>RI
theorem GV {a:Addr}:b6 K (tC (.ref a)) (uC (.ref a)):=tS fun _ _=>rN
def fC (r:dU) (ta tb:UE):UE:=fun τ M Q=>ta τ M fun x M1=>tb τ M1 fun y M2=>r x y M2 Q
theorem sX {r:R2} {r':dU} (hr:dO K r r') (ha:b6 K ta ta') (hb:b6 K tb tb'):b6 K (GG r ta tb) (fC r' ta' tb'):=fun σ τ H M Q' rs rm h Q c =>
 ha σ τ H M _ rs rm h _ fun u v M1 H1 s1 rm1 ru h1=>hb σ τ H1 M1 _ (rs.stp s1) rm1 h1 _ fun w x M2 H2 s2 rm2 rw h2=>hr v x u w H2 M2 Q' rm2 (ru.stp s2) rw h2 Q (cO.stp c (s1.trans s2))
def wJ (r:U->aI->UK->Prop) (ta:UE):UE:=fun τ M Q=>ta τ M fun x M1=>r x M1 Q
theorem TN {r:V->Hp->VK->Prop} {r':U->aI->UK->Prop} (hr:VN K r r') (ha:b6 K ta ta'):b6 K (Ww r ta) (wJ r' ta'):=fun σ τ H M Q' rs rm h Q c =>
 ha σ τ H M _ rs rm h _ fun u v M1 H1 s1 rm1 ru h1=>hr v u H1 M1 Q' rm1 ru h1 Q (cO.stp c s1)
def lB (t:UE):UT:=fun τ M Q=>t τ M fun u M1=>match u with
 | .bl b=>Q b M1
 | _=>False
theorem Ce (h:b6 K t t'):i9 K (Jk t) (lB t'):=fun σ τ H M Q' rs rm q Q c=>h σ τ H M _ rs rm q _ fun u v M1 H1 s1 rm1 ru h1=>by
 cases u with
 | bl b=>exact ⟨b,ru.bl,c b M1 H1 s1 rm1 h1⟩
 | _=>exact h1.elim
def rL (t:UE):UT:=fun τ M Q=>t τ M fun u M1=>match view M1 u with
 | .non=>Q false M1
 | .bl b=>Q b M1
 | .int i=>Q (i != 0) M1
 | .str x=>x.length<=sizeLine/\Q ((x.length:Int) != 0) M1
 | .tup us=>Q (!us.isEmpty) M1
 | .lst us=>Q (!us.isEmpty) M1
 | _=>False
theorem uV {H:Hp} {M:aI} {us:List U} {vs:List V} (r:aS K H M us vs):us.isEmpty=vs.isEmpty:=by
 have:=r.length
 cases us <;> cases vs <;> simp_all
theorem RU (h:b6 K t t'):i9 K (fun σ H Q=>t σ H fun x H'=>∃ k,Pe K x H' k/\Q k H') (rL t'):=fun σ τ H M Q' rs rm q Q c=>h σ τ H M _ rs rm q _ fun u v M1 H1 s1 rm1 ru h1=>by
 split at h1
 ·rename_i e
  cases u with
  | non=>exact ⟨false,by rw [ru.non];rfl,c _ M1 H1 s1 rm1 h1⟩
  | ref a=>simp only [view] at e;split at e <;> cases e
  | _=>simp [view] at e
 ·rename_i b e
  cases u with
  | bl b'=>simp only [view] at e;cases e;exact ⟨b,by rw [ru.bl];rfl,c _ M1 H1 s1 rm1 h1⟩
  | ref a=>simp only [view] at e;split at e <;> cases e
  | _=>simp [view] at e
 ·rename_i b e
  cases u with
  | int b'=>simp only [view] at e;cases e;exact ⟨b != 0,by rw [ru.int];rfl,c _ M1 H1 s1 rm1 h1⟩
  | ref a=>simp only [view] at e;split at e <;> cases e
  | _=>simp [view] at e
 ·rename_i b e
  cases u with
  | str b'=>simp only [view] at e;cases e;exact ⟨(b.length:Int) != 0,by rw [ru.str];exact ⟨h1.1,rfl⟩,c _ M1 H1 s1 rm1 h1.2⟩
  | ref a=>simp only [view] at e;split at e <;> cases e
  | _=>simp [view] at e
 ·rename_i us e
  cases u with
  | tup us' =>
   simp only [view] at e;cases e
   obtain ⟨a,vs,rfl,r1,r2⟩:=ru.tup
   exact ⟨!vs.isEmpty,.inr (.inl ⟨vs,r1,rfl⟩),c _ M1 H1 s1 rm1 (by rw [<- uV r2];exact h1)⟩
  | ref a=>simp only [view] at e;split at e <;> cases e
  | _=>simp [view] at e
 ·rename_i us e
  obtain ⟨a,vs,rfl,r1,r2⟩:=eB rm1 ru e
  exact ⟨!vs.isEmpty,.inl ⟨vs,r1,rfl⟩,c _ M1 H1 s1 rm1 (by rw [<- uV r2];exact h1)⟩
 ·exact h1.elim
def rR (t u:UT):UT:=fun τ M Q=>t τ M fun c M1=>if c=true then u τ M1 Q else Q false M1
def xK (t u:UT):UT:=fun τ M Q=>t τ M fun c M1=>if c=true then Q true M1 else u τ M1 Q
def qX (t:UT):UT:=fun τ M Q=>t τ M fun c M1=>Q (!c) M1
theorem Ru {t u:TT} {t' u':UT} (h:i9 K t t') (k:i9 K u u'):i9 K (Vk t u) (rR t' u'):=fun σ τ H M Q' rs rm q Q c=>h σ τ H M _ rs rm q _ fun b M1 H1 s1 rm1 h1=>by
 cases b with
 | true=>exact k σ τ H1 M1 Q' (rs.stp s1) rm1 h1 Q fun b M2 H2 s2=>c b M2 H2 (s1.trans s2)
 | false=>exact c _ M1 H1 s1 rm1 h1
theorem Ts {t u:TT} {t' u':UT} (h:i9 K t t') (k:i9 K u u'):i9 K (Wi t u) (xK t' u'):=fun σ τ H M Q' rs rm q Q c=>h σ τ H M _ rs rm q _ fun b M1 H1 s1 rm1 h1=>by
 cases b with
 | false=>exact k σ τ H1 M1 Q' (rs.stp s1) rm1 h1 Q fun b M2 H2 s2=>c b M2 H2 (s1.trans s2)
 | true=>exact c _ M1 H1 s1 rm1 h1
theorem Ri {t:TT} {t':UT} (h:i9 K t t'):i9 K (Uh t) (qX t'):=fun σ τ H M Q' rs rm q Q c=>h σ τ H M _ rs rm q _ fun b M1 H1 s1 rm1 h1=>c _ M1 H1 s1 rm1 h1
def fD (ta tb:UE):UE:=fun τ M Q=>ta τ M fun x M1=>match x with
 | .bl c=>if c=true then tb τ M1 Q else Q (.bl false) M1
 | _=>False
def v7 (ta tb:UE):UE:=fun τ M Q=>ta τ M fun x M1=>match x with
 | .bl c=>if c=true then Q (.bl true) M1 else tb τ M1 Q
 | _=>False
def m8 (ta:UE):UE:=fun τ M Q=>ta τ M fun x M1=>match x with
 | .bl c=>Q (.bl (!c)) M1
 | _=>False
theorem OV (h:b6 K ta ta') (k:b6 K tb tb'):b6 K (QF ta tb) (fD ta' tb'):=fun σ τ H M Q' rs rm q Q c=>h σ τ H M _ rs rm q _ fun u v M1 H1 s1 rm1 ru h1=>by
 cases u with
 | bl b =>
  refine ⟨b,ru.bl,?_⟩
  cases b with
  | true=>exact k σ τ H1 M1 Q' (rs.stp s1) rm1 h1 Q (cO.stp c s1)
  | false=>exact c _ _ M1 H1 s1 rm1 cL h1
 | _=>exact h1.elim
theorem Pr (h:b6 K ta ta'):b6 K (P0 ta) (m8 ta'):=fun σ τ H M Q' rs rm q Q c=>h σ τ H M _ rs rm q _ fun u v M1 H1 s1 rm1 ru h1=>by
 cases u with
 | bl b=>exact ⟨b,ru.bl,c _ _ M1 H1 s1 rm1 cL h1⟩
 | _=>exact h1.elim
def xI (t:UT) (ta tb:UE):UE:=fun τ M Q=>t τ M fun c M1=>if c=true then ta τ M1 Q else tb τ M1 Q
theorem Vi {t:TT} {t':UT} (h:i9 K t t') (k:b6 K ta ta') (l:b6 K tb tb'):b6 K (Wg t ta tb) (xI t' ta' tb'):=fun σ τ H M Q' rs rm q Q c=>h σ τ H M _ rs rm q _ fun b M1 H1 s1 rm1 h1=>by
 cases b with
 | true=>exact k σ τ H1 M1 Q' (rs.stp s1) rm1 h1 Q (cO.stp c s1)
 | false=>exact l σ τ H1 M1 Q' (rs.stp s1) rm1 h1 Q (cO.stp c s1)
def j4 (r r':dU) (ta tb tc:UE):UE:=fun τ M Q=>ta τ M fun x M1=>tb τ M1 fun y M2=>r x y M2 fun z M3=>match z with
 | .bl k=>if k=true then tc τ M3 fun w M4=>r' y w M4 Q else Q (.bl false) M3
 | _=>False
theorem zX {r r':R2} {s s':dU} (hr:dO K r s) (hr':dO K r' s') (ha:b6 K ta ta') (hb:b6 K tb tb') (hc:b6 K tc tc'):b6 K (A8 r r' ta tb tc) (j4 s s' ta' tb' tc'):=fun σ τ H M Q' rs rm h Q c =>
 ha σ τ H M _ rs rm h _ fun u v M1 H1 s1 rm1 ru h1=>hb σ τ H1 M1 _ (rs.stp s1) rm1 h1 _ fun w x M2 H2 s2 rm2 rw h2 =>
  hr v x u w H2 M2 _ rm2 (ru.stp s2) rw h2 _ fun z zv M3 H3 s3 rm3 rz h3=>by
   cases z with
   | bl k =>
    refine ⟨k,rz.bl,?_⟩
    cases k with
    | true=>exact hc σ τ H3 M3 _ ((rs.stp s1).stp (s2.trans s3)) rm3 h3 _ fun w2 x2 M4 H4 s4 rm4 rw4 h4=>hr' x x2 w w2 H4 M4 Q' rm4 (rw.stp (s3.trans s4)) rw4 h4 Q (cO.stp c (((s1.trans s2).trans s3).trans s4))
    | false=>exact c _ _ M3 H3 ((s1.trans s2).trans s3) rm3 cL h3
   | _=>exact h3.elim
def mR:UA:=fun _ M Q=>Q [] M
def kC (ta:UE) (tr:UA):UA:=fun τ M Q=>ta τ M fun x M1=>tr τ M1 fun xs M2=>Q (x :: xs) M2
theorem GO:kD K UY mR:=fun σ τ H M Q' rs rm q Q c=>c [] [] M H (bE.refl _ _) rm .nil q
theorem B9 {tr:TA} {tr':UA} (ha:b6 K ta ta') (hr:kD K tr tr'):kD K (PY ta tr) (kC ta' tr'):=fun σ τ H M Q' rs rm h Q c =>
 ha σ τ H M _ rs rm h _ fun u v M1 H1 s1 rm1 ru h1=>hr σ τ H1 M1 _ (rs.stp s1) rm1 h1 _ fun us vs M2 H2 s2 rm2 rus h2=>c (u :: us) (v :: vs) M2 H2 (s1.trans s2) rm2 (.cons (ru.stp s2) rus) h2
def oX (t:UA):UE:=fun τ M Q=>t τ M fun us M1=>us.length<=sizeLine/\Q (.tup us) M1
def o6 (o:Bool) (t:UA):UE:=fun τ M Q=>t τ M fun us M1=>us.length<=sizeLine/\kB o us M1 Q
theorem GD {t:TA} {t':UA} (h:kD K t t'):b6 K (Vg t) (oX t'):=fun σ τ H M Q' rs rm q Q c =>
 h σ τ H M _ rs rm q _ fun us vs M1 H1 s1 rm1 r h1=>⟨by rw [<- r.length];exact h1.1,fun p hp=>(cO.stp c s1).tup rm1 r hp h1.2⟩
theorem G0 {o:Bool} {t:TA} {t':UA} (h:kD K t t'):b6 K (Vj t) (o6 o t'):=fun σ τ H M Q' rs rm q Q c =>
 h σ τ H M _ rs rm q _ fun us vs M1 H1 s1 rm1 r h1=>⟨by rw [<- r.length];exact h1.1,fun p hp=>(cO.stp c s1).lst rm1 r hp h1.2⟩
def pO (r:List U->aI->UK->Prop) (t:UA):UE:=fun τ M Q=>t τ M fun us M1=>r us M1 Q
theorem BQ {r:List V->Hp->VK->Prop} {r':List U->aI->UK->Prop} {t:TA} {t':UA} (hr:qU K r r') (h:kD K t t'):b6 K (Td r t) (pO r' t'):=fun σ τ H M Q' rs rm q Q c =>
 h σ τ H M _ rs rm q _ fun us vs M1 H1 s1 rm1 ru h1=>hr vs us H1 M1 Q' rm1 ru h1 Q (cO.stp c s1)
end
end U2
namespace U2
open PySem L2
section
variable {K:PySem.W.Frag}
def nX (g:Int->Int->U):dU:=fun x y M Q=>match x,y with
 | .int i,.int j=>Q (g i j) M
 | _,_=>False
def uI (C:Int->Int->Prop) (g:Int->Int->U):dU:=fun x y M Q=>match x,y with
 | .int i,.int j=>C i j/\Q (g i j) M
 | _,_=>False
theorem KN {g:Int->Int->V} {g':Int->Int->U} (hg:∀ H M i j,aY K H M (g' i j) (g i j)):dO K (r9 g) (nX g'):=fun x y u w H M Q' rm ru rw h Q c=>by
 cases u with
 | int i=>cases w with
  | int j=>exact ⟨i,j,ru.int,rw.int,c _ _ M H (bE.refl _ _) rm (hg H M i j) h⟩
  | _=>exact h.elim
 | _=>exact h.elim
theorem VG {C:Int->Int->Prop} {g:Int->Int->V} {g':Int->Int->U} (hg:∀ H M i j,aY K H M (g' i j) (g i j)):dO K (rI C g) (uI C g'):=fun x y u w H M Q' rm ru rw h Q c=>by
 cases u with
 | int i=>cases w with
  | int j=>exact ⟨i,j,ru.int,rw.int,h.1,c _ _ M H (bE.refl _ _) rm (hg H M i j) h.2⟩
  | _=>exact h.elim
 | _=>exact h.elim
theorem BR {f:Int->Int->Int}:dO K (r9 fun i j=>.int (f i j)) (nX fun i j=>.int (f i j)):=KN fun _ _ _ _=>cP
theorem oW {f:Int->Int->Bool}:dO K (r9 fun i j=>.bl (f i j)) (nX fun i j=>.bl (f i j)):=KN fun _ _ _ _=>cL
theorem oR {C:Int->Int->Prop} {f:Int->Int->Int}:dO K (rI C fun i j=>.int (f i j)) (uI C fun i j=>.int (f i j)):=VG fun _ _ _ _=>cP
def VT:dU:=fun x y M Q=>match x,y with
 | .str i,.str j=>i.length + j.length<=sizeLine/\Q (.str (i++j)) M
 | _,_=>False
theorem Od:dO K (fun x y H Q=>∃ i j,x=.str i/\y=.str j/\i.length + j.length<=sizeLine/\Q (.str (i++j)) H) VT:=fun x y u w H M Q' rm ru rw h Q c=>by
 cases u with
 | str i=>cases w with
  | str j=>exact ⟨i,j,ru.str,rw.str,h.1,c _ _ M H (bE.refl _ _) rm iD h.2⟩
  | _=>exact h.elim
 | _=>exact h.elim
def Bs (K:PySem.W.Frag):R2:=fun x y H Q=>∃ a b xs ys,x=.ref a/\y=.ref b/\fA K H a xs/\fA K H b ys/\xs.length + ys.length<=sizeLine /\
 (xs=[]->Q (.ref b) H)/\(xs≠[]->ys=[]->Q (.ref a) H)/\(xs≠[]->ys≠[]->∀ p,H p=none->Q (.ref p) (upd H p (.tup (xs++ys))))
def VM:dU:=fun x y M Q=>match x,y with
 | .tup us,.tup ws=>us.length + ws.length<=sizeLine/\Q (.tup (us++ws)) M
 | _,_=>False
theorem NL:dO K (Bs K) VM:=fun x y u w H M Q' rm ru rw h Q c=>by
 cases u with
 | tup us=>cases w with
  | tup ws =>
   obtain ⟨h2,h3⟩:=h
   obtain ⟨a,xs,rfl,s1,r1⟩:=ru.tup
   obtain ⟨b,ys,rfl,s2,r2⟩:=rw.tup
   refine ⟨a,b,xs,ys,rfl,rfl,s1,s2,by rw [<- r1.length,<- r2.length];exact h2,fun e=>?_,fun _ e=>?_,fun _ _ p hp=>c.tup rm (r1.append r2) hp h3⟩
   ·subst e
    have e2:us=[]:=List.length_eq_zero_iff.mp r1.length
    subst e2
    exact c _ _ M H (bE.refl _ _) rm rw h3
   ·subst e
    have e2:ws=[]:=List.length_eq_zero_iff.mp r2.length
    subst e2
    exact c _ _ M H (bE.refl _ _) rm ru (by rw [List.append_nil] at h3;exact h3)
  | _=>exact h.elim
 | _=>exact h.elim
def lZ (o:Bool):dU:=fun x y M Q=>match view M x,view M y with
 | .lst us,.lst ws=>us.length + ws.length<=sizeLine/\kB o (us++ws) M Q
 | _,_=>False
def Ha (K:PySem.W.Frag):R2:=fun x y H Q=>∃ l b xs zs,x=.ref l/\y=.ref b/\dM K H l xs/\dM K H b zs/\xs.length + zs.length<=sizeLine/\∀ p,H p=none->Q (.ref p) (upd H p (.lst (xs++zs)))
theorem OE {o:Bool}:dO K (Ha K) (lZ o):=fun x y u w H M Q' rm ru rw h Q c=>by
 unfold lZ at h
 split at h
 ·rename_i us ws e1 e2
  obtain ⟨a,xs,rfl,s1,r1⟩:=eB rm ru e1
  obtain ⟨b,ys,rfl,s2,r2⟩:=eB rm rw e2
  exact ⟨a,b,xs,ys,rfl,rfl,s1,s2,by rw [<- r1.length,<- r2.length];exact h.1,fun p hp=>c.lst rm (r1.append r2) hp h.2⟩
 ·exact h.elim
theorem GP {H:Hp} {M:aI} {us:List U} {vs:List V} {i:Int} {u:U} (r:aS K H M us vs) (h:eF us i=some u):∃ v,eF vs i=some v/\aY K H M u v:=by
 unfold eF at h ⊢
 rw [<- r.length]
 cases e:u6 us.length i with
 | none=>rw [e] at h;cases h
 | some j=>rw [e] at h;exact r.get h
def oQ:dU:=fun x y M Q=>match view M x,y with
 | .lst us,.int i=>∃ u,eF us i=some u/\Q u M
 | .tup us,.int i=>∃ u,eF us i=some u/\Q u M
 | .str z,.int i=>z.length<=sizeLine/\∃ c,eF z.cps.toList i=some c/\Q (.str ⟨#[c]⟩) M
 | _,_=>False
theorem rW {M:aI} {u:U} {us:List U} (h:view M u=.tup us):u=.tup us:=by
 cases u with
 | ref a=>simp only [view] at h;split at h <;> cases h
 | _=>simpa [view] using h
theorem v8 {M:aI} {u:U} {x:Str} (h:view M u=.str x):u=.str x:=by
 cases u with
 | ref a=>simp only [view] at h;split at h <;> cases h
 | _=>simpa [view] using h
theorem T8:dO K (Wq K) oQ:=fun x y u w H M Q' rm ru rw h Q c=>by
 unfold oQ at h
 split at h
 ·rename_i us i e
  obtain ⟨z,h1,h2⟩:=h
  obtain ⟨a,xs,rfl,s1,r1⟩:=eB rm ru e
  obtain ⟨v,h3,h4⟩:=GP r1 h1
  exact .inl ⟨a,xs,i,v,rfl,rw.int,s1,h3,c _ _ M H (bE.refl _ _) rm h4 h2⟩
 ·rename_i us i e
  obtain ⟨z,h1,h2⟩:=h
  have e':=rW e
  subst e'
  obtain ⟨a,xs,rfl,s1,r1⟩:=ru.tup
  obtain ⟨v,h3,h4⟩:=GP r1 h1
  exact .inr (.inl ⟨a,xs,i,v,rfl,rw.int,s1,h3,c _ _ M H (bE.refl _ _) rm h4 h2⟩)
 ·rename_i z i e
  obtain ⟨h0,d,h1,h2⟩:=h
  have e':=v8 e
  subst e'
  exact .inr (.inr ⟨z,i,d,ru.str,rw.int,h0,h1,c _ _ M H (bE.refl _ _) rm iD h2⟩)
 ·exact h.elim
abbrev UO:=SU->aI->(Option Int->aI->Prop)->Prop
def A3 (K:PySem.W.Frag) (t:TO) (t':UO):Prop:=∀ (σ:St) (τ:SU) (H:Hp) (M:aI) (Q':Option Int->aI->Prop),cZ K H M σ τ->RelM K H M->t' τ M Q' ->
 ∀ Q:Option Int->Hp->Prop,(∀ o M1 H1,bE H M H1 M1->RelM K H1 M1->Q' o M1->Q o H1)->t σ H Q
def jO:UO:=fun _ M Q=>Q none M
def m7 (t:UE):UO:=fun τ M Q=>t τ M fun x M1=>match x with
 | .int i=>Q (some i) M1
 | _=>False
theorem JF:A3 K Gk jO:=fun σ τ H M Q' rs rm q Q c=>c none M H (bE.refl _ _) rm q
theorem Pk {t:TE} {t':UE} (h:b6 K t t'):A3 K (P5 t) (m7 t'):=fun σ τ H M Q' rs rm q Q c=>h σ τ H M _ rs rm q _ fun u v M1 H1 s1 rm1 ru h1=>by
 cases u with
 | int i=>exact ⟨i,ru.int,c _ M1 H1 s1 rm1 h1⟩
 | _=>exact h1.elim
def eA {α:Type} (xs:List α) (lo hi:Option Int):List α:=(xs.drop (HT.bS xs.length 0 lo)).take (HT.bS xs.length xs.length hi - HT.bS xs.length 0 lo)
theorem G1 {H:Hp} {M:aI} {us:List U} {vs:List V} (r:aS K H M us vs) (lo hi:Option Int):aS K H M (eA us lo hi) (o7 vs lo hi):=by
 unfold eA o7
 rw [r.length]
 exact (r.drop _).take _
def TQ (K:PySem.W.Frag):V->Option Int->Option Int->Hp->VK->Prop:=fun x lo hi H Q =>
 (∃ a xs,x=.ref a/\dM K H a xs/\∀ p,H p=none->Q (.ref p) (upd H p (.lst (o7 xs lo hi)))) \/
 (∃ a xs,x=.ref a/\fA K H a xs/\¬ (HT.bS xs.length 0 lo=0/\HT.bS xs.length xs.length hi=xs.length)/\∀ p,H p=none->Q (.ref p) (upd H p (.tup (o7 xs lo hi)))) \/
 (∃ z:Str,x=.str z/\z.length<=sizeLine/\Q (.str (Txt.slice z lo hi)) H)
def Xd (o:Bool) (te:UE) (tl th:UO):UE:=fun τ M Q=>te τ M fun x M1=>tl τ M1 fun l M2=>th τ M2 fun h M3=>match view M3 x with
 | .lst us=>kB o (eA us l h) M3 Q
 | .tup us=>¬ (HT.bS us.length 0 l=0/\HT.bS us.length us.length h=us.length)/\Q (.tup (eA us l h)) M3
 | .str z=>z.length<=sizeLine/\Q (.str (Txt.slice z l h)) M3
 | _=>False
end
section
variable {K:PySem.W.Frag} {t u:TS} {t' u':US} {te:TE} {te':UE}
def b7:US:=fun D τ M=>D.nx τ M
def qP (t u:US):US:=fun D τ M=>t { D with nx:=u D } τ M
def xP:US:=fun D τ M=>D.bk τ M
def AJ:US:=fun D τ M=>D.ct τ M
def hZ (te:UE):US:=fun D τ M=>te τ M fun _ M1=>D.nx τ M1
def cE (te:UE):US:=fun D τ M=>te τ M D.rt
def AN:US:=fun D _ M=>D.rt .non M
def vQ (c:UT) (t u:US):US:=fun D τ M=>c τ M fun b M1=>if b=true then t D τ M1 else u D τ M1
theorem Oo:iY K QC b7:=fun σ τ H M D' rs rm h D d=>d.nx σ τ H M (bE.refl _ _) rm rs h
theorem Gp (h1:iY K t t') (h2:iY K u u'):iY K (SN t u) (qP t' u'):=fun σ τ H M D' rs rm h D d =>
 h1 σ τ H M _ rs rm h _ ⟨fun σ1 τ1 H1 M1 s rm1 rs1 q=>h2 σ1 τ1 H1 M1 D' rs1 rm1 q D (d.stp s),d.rt,d.bk,d.ct⟩
theorem Oz (h1:b6 K te te'):iY K (Qb te) (hZ te'):=fun σ τ H M D' rs rm h D d=>h1 σ τ H M _ rs rm h _ fun u v M1 H1 s rm1 ru q=>d.nx σ τ H1 M1 s rm1 (rs.stp s) q
theorem Sm (h1:b6 K te te'):iY K (TY te) (cE te'):=fun σ τ H M D' rs rm h D d=>h1 σ τ H M _ rs rm h _ fun u v M1 H1 s rm1 ru q=>d.rt u v H1 M1 s rm1 ru q
theorem Ry {c:TT} {c':UT} (hc:i9 K c c') (h1:iY K t t') (h2:iY K u u'):iY K (TB c t u) (vQ c' t' u'):=fun σ τ H M D' rs rm h D d=>hc σ τ H M _ rs rm h _ fun b M1 H1 s rm1 q=>by
 cases b with
 | true=>exact h1 σ τ H1 M1 D' (rs.stp s) rm1 q D (d.stp s)
 | false=>exact h2 σ τ H1 M1 D' (rs.stp s) rm1 q D (d.stp s)
abbrev UG:=U->SU->aI->(SU->aI->Prop)->Prop
abbrev wN:=List U->SU->aI->(SU->aI->Prop)->Prop
def vX (K:PySem.W.Frag) (g:TG) (g':UG):Prop:=∀ (u:U) (v:V) (σ:St) (τ:SU) (H:Hp) (M:aI) (Q':SU->aI->Prop),aY K H M u v->cZ K H M σ τ->RelM K H M->g' u τ M Q' ->
 ∀ Q:St->Hp->Prop,(∀ σ1 τ1 H1 M1,bE H M H1 M1->RelM K H1 M1->cZ K H1 M1 σ1 τ1->Q' τ1 M1->Q σ1 H1)->g v σ H Q
def xE (K:PySem.W.Frag) (g:oH) (g':wN):Prop:=∀ (us:List U) (vs:List V) (σ:St) (τ:SU) (H:Hp) (M:aI) (Q':SU->aI->Prop),aS K H M us vs->cZ K H M σ τ->RelM K H M->g' us τ M Q' ->
 ∀ Q:St->Hp->Prop,(∀ σ1 τ1 H1 M1,bE H M H1 M1->RelM K H1 M1->cZ K H1 M1 σ1 τ1->Q' τ1 M1->Q σ1 H1)->g vs σ H Q
def hName (i:Nat):UG:=fun u τ M Q=>Q (τ.set i (some u)) M
theorem mQ (i:Nat):vX K (qW i) (hName i):=fun u v σ τ H M Q' ru rs rm h Q c=>c _ _ H M (bE.refl _ _) rm (rs.set ru) h
def pE:wN:=fun us τ M Q=>match us with
 | []=>Q τ M
 | _=>False
def mE (g:UG) (r:wN):wN:=fun us τ M Q=>match us with
 | u :: us=>g u τ M fun τ1 M1=>r us τ1 M1 Q
 | _=>False
theorem N0:xE K Dn pE:=fun us vs σ τ H M Q' ru rs rm h Q c=>by
 cases us with
 | nil=>exact ⟨ru.inv_nil,c σ τ H M (bE.refl _ _) rm rs h⟩
 | cons _ _=>exact h.elim
theorem LU {g:TG} {g':UG} {r:oH} {r':wN} (h1:vX K g g') (h2:xE K r r'):xE K (yB g r) (mE g' r'):=fun us vs σ τ H M Q' ru rs rm h Q c=>by
 cases us with
 | nil=>exact h.elim
 | cons u us =>
  obtain ⟨v,vs',rfl,a,b⟩:=ru.inv_cons
  exact ⟨v,vs',rfl,h1 u v σ τ H M _ a rs rm h _ fun σ1 τ1 H1 M1 s rm1 rs1 q=>h2 us vs' σ1 τ1 H1 M1 Q' (b.stp s) rs1 rm1 q Q fun σ2 τ2 H2 M2 s2=>c σ2 τ2 H2 M2 (s.trans s2)⟩
def lL (n:Nat) (r:wN):UG:=fun u τ M Q=>match u with
 | .tup us=>us.length=n/\r us τ M Q
 | _=>False
theorem OC {n:Nat} {r:oH} {r':wN} (h2:xE K r r'):vX K (B6 K n r) (lL n r'):=fun u v σ τ H M Q' ru rs rm h Q c=>by
 cases u with
 | tup us =>
  obtain ⟨a,vs,rfl,s1,r1⟩:=ru.tup
  exact ⟨a,vs,rfl,s1,by rw [<- r1.length];exact h.1,h2 us vs σ τ H M Q' r1 rs rm h.2 Q c⟩
 | _=>exact h.elim
def bQ (te:UE) (g:UG):US:=fun D τ M=>te τ M fun x M1=>g x τ M1 D.nx
theorem uE {g:TG} {g':UG} (h1:b6 K te te') (h2:vX K g g'):iY K (IG te g) (bQ te' g'):=fun σ τ H M D' rs rm h D d =>
 h1 σ τ H M _ rs rm h _ fun u v M1 H1 s rm1 ru q=>h2 u v σ τ H1 M1 _ ru (rs.stp s) rm1 q _ fun σ1 τ1 H2 M2 s2 rm2 rs2 q2=>d.nx σ1 τ1 H2 M2 (s.trans s2) rm2 rs2 q2
def Dl (c:UT) (tb:US):US:=fun D τ M=>∃ (P:SU->aI->Prop) (μ:SU->aI->Nat),P τ M/\∀ τ M,P τ M->c τ M fun b M1=>if b=true then tb { D with nx:=fun τ' M'=>P τ' M'/\μ τ' M' < μ τ M,ct:=fun τ' M'=>P τ' M'/\μ τ' M' < μ τ M,bk:=D.nx } τ M1 else D.nx τ M1
theorem MQ {c:TT} {c':UT} (hc:i9 K c c') (h1:iY K t t'):iY K (Lq c t) (Dl c' t'):=fun σ τ H M D' rs rm h D d=>by
 obtain ⟨P,μ,p0,turn⟩:=h
 refine ⟨fun m σ1 H1=>∃ τ1 M1,bE H M H1 M1/\RelM K H1 M1/\cZ K H1 M1 σ1 τ1/\P τ1 M1/\m=μ τ1 M1,⟨_,τ,M,bE.refl _ _,rm,rs,p0,rfl⟩,?_⟩
 rintro m σ1 H1 ⟨τ1,M1,s1,rm1,rs1,p1,rfl⟩
 refine hc σ1 τ1 H1 M1 _ rs1 rm1 (turn τ1 M1 p1) _ fun b M2 H2 s2 rm2 q=>?_
 cases b with
 | true =>
  refine ⟨fun σ3 H3=>∃ τ3 M3,bE H M H3 M3/\RelM K H3 M3/\cZ K H3 M3 σ3 τ3/\P τ3 M3/\μ τ3 M3 < μ τ1 M1,?_,?_⟩
  ·rintro σ3 H3 ⟨τ3,M3,s3,rm3,rs3,p3,lt⟩
   exact ⟨_,lt,τ3,M3,s3,rm3,rs3,p3,rfl⟩
  ·have d2:=d.stp (s1.trans s2)
   exact h1 σ1 τ1 H2 M2 _ (rs1.stp s2) rm2 q _ ⟨fun σ3 τ3 H3 M3 s3 rm3 rs3 q3=>⟨τ3,M3,(s1.trans s2).trans s3,rm3,rs3,q3.1,q3.2⟩,d2.rt,d2.nx,fun σ3 τ3 H3 M3 s3 rm3 rs3 q3=>⟨τ3,M3,(s1.trans s2).trans s3,rm3,rs3,q3.1,q3.2⟩⟩
 | false=>exact d.nx σ1 τ1 H2 M2 (s1.trans s2) rm2 (rs1.stp s2) q
structure Src where
 own:Option Addr
 xs:List U
def Src.ok (S:Src) (M:aI):Prop:=∀ a,S.own=some a->M a=some (.lst S.xs)
structure Walk (K:PySem.W.Frag) (J:It) (S:Src) (H:Hp) (M:aI):Prop where
 step:∀ H1 M1,bE H M H1 M1->RelM K H1 M1->S.ok M1->∀ (i:Nat) u,S.xs[i]?=some u->J.go i H1/\∀ x H2,J.yld i H1 x H2->bE H1 M1 H2 M1/\RelM K H2 M1/\aY K H2 M1 u x
 stop:∀ H1 M1,bE H M H1 M1->RelM K H1 M1->S.ok M1->J.stop S.xs.length H1
abbrev UI:=SU->aI->(Src->aI->Prop)->Prop
def sZ (K:PySem.W.Frag) (t:TI) (t':UI):Prop:=∀ (σ:St) (τ:SU) (H:Hp) (M:aI) (R':Src->aI->Prop),cZ K H M σ τ->RelM K H M->t' τ M R' ->
 ∀ R:It->Hp->Prop,(∀ J S M1 H1,bE H M H1 M1->RelM K H1 M1->Walk K J S H1 M1->R' S M1->R J H1)->t σ H R
def JN (wi:UI) (g:UG) (tb:US):US:=fun D τ M=>wi τ M fun S M1=>∃ P:Nat->SU->aI->Prop,P 0 τ M1/\(∀ i τ M,P i τ M->S.ok M) /\
 (∀ i x τ M,S.xs[i]?=some x->P i τ M->g x τ M fun τ2 M2=>tb { D with nx:=P (i + 1),ct:=P (i + 1),bk:=D.nx } τ2 M2)/\∀ τ M,P S.xs.length τ M->D.nx τ M
theorem Rt {wi:TI} {wi':UI} {g:TG} {g':UG} (hi:sZ K wi wi') (hg:vX K g g') (h1:iY K t t'):iY K (Tu wi g t) (JN wi' g' t'):=fun σ τ H M D' rs rm h D d=>by
 refine hi σ τ H M _ rs rm h _ fun J S M0 H0 s0 rm0 w h=>?_
 obtain ⟨P,p0,hok,turn,fin⟩:=h
 refine ⟨fun i m σ1 H1=>∃ τ1 M1,bE H0 M0 H1 M1/\RelM K H1 M1/\cZ K H1 M1 σ1 τ1/\P i τ1 M1/\i<=S.xs.length/\m=S.xs.length - i,⟨_,τ,M0,bE.refl _ _,rm0,rs.stp s0,p0,Nat.zero_le _,rfl⟩,?_⟩
 rintro i m σ1 H1 ⟨τ1,M1,s1,rm1,rs1,p1,hle,rfl⟩
 have ok1:=hok i τ1 M1 p1
 by_cases hlt:i < S.xs.length
 ·obtain ⟨go,yl⟩:=w.step H1 M1 s1 rm1 ok1 i S.xs[i] (by simp [hlt])
  refine .inr ⟨go,fun σ3 H3=>∃ τ3 M3,bE H0 M0 H3 M3/\RelM K H3 M3/\cZ K H3 M3 σ3 τ3/\P (i + 1) τ3 M3,?_,fun x H2 y=>?_⟩
  ·rintro σ3 H3 ⟨τ3,M3,s3,rm3,rs3,p3⟩
   exact ⟨S.xs.length - (i + 1),by omega,τ3,M3,s3,rm3,rs3,p3,hlt,rfl⟩
  ·obtain ⟨s2,rm2,ru⟩:=yl x H2 y
   refine hg _ x σ1 τ1 H2 M1 _ ru (rs1.stp s2) rm2 (turn i S.xs[i] τ1 M1 (by simp [hlt]) p1) _ fun σ3 τ3 H3 M3 s3 rm3 rs3 q3=>?_
   have d3:=d.stp (((s0.trans s1).trans s2).trans s3)
   exact h1 σ3 τ3 H3 M3 _ rs3 rm3 q3 _ ⟨fun σ4 τ4 H4 M4 s4 rm4 rs4 q4=>⟨τ4,M4,((s1.trans s2).trans s3).trans s4,rm4,rs4,q4⟩,d3.rt,d3.nx,fun σ4 τ4 H4 M4 s4 rm4 rs4 q4=>⟨τ4,M4,((s1.trans s2).trans s3).trans s4,rm4,rs4,q4⟩⟩
 ·have e:i=S.xs.length:=by omega
  subst e
  exact .inl ⟨w.stop H1 M1 s1 rm1 ok1,d.nx σ1 τ1 H1 M1 (s0.trans s1) rm1 rs1 (fin τ1 M1 p1)⟩
end
end U2
namespace U2
open PySem L2
section
variable {K:PySem.W.Frag}
theorem Mf {a:Addr} {us:List U} {vs:List V} {H:Hp} {M:aI} (m:(M a=none/\Rd H a (.lst vs))\/KL K a vs) (r:aS K H M us vs):Walk K (QE K a) ⟨none,us⟩ H M:=by
 have sq:∀ H1 M1,bE H M H1 M1->dM K H1 a vs:=fun H1 M1 s=>by
  rcases m with ⟨m,h⟩ | k
  ·exact .inl (Rd.stp s m h).2
  ·exact .inr k
 refine ⟨fun H1 M1 s rm _ i u e=>?_,fun H1 M1 s rm _=>⟨vs,sq H1 M1 s,by rw [r.length];exact Nat.le_refl _⟩⟩
 obtain ⟨v,e2,ru⟩:=r.get e
 refine ⟨⟨vs,v,sq H1 M1 s,e2⟩,fun x H2 y=>?_⟩
 obtain ⟨rfl,y⟩:=y
 have:=y vs (sq _ M1 s)
 rw [e2] at this;cases this
 exact ⟨bE.refl _ _,rm,ru.stp s⟩
theorem Pt {a:Addr} {us:List U} {vs:List V} {H:Hp} {M:aI} (m:M a=none/\H a=some (.tup vs)) (r:aS K H M us vs):Walk K (Tg K a) ⟨none,us⟩ H M:=by
 have sq:∀ H1 M1,bE H M H1 M1->fA K H1 a vs:=fun H1 M1 s=>by
  exact .inl (.inl (s.to m.2 m.1).1)
 refine ⟨fun H1 M1 s rm _ i u e=>?_,fun H1 M1 s rm _=>⟨vs,sq H1 M1 s,by rw [r.length];exact Nat.le_refl _⟩⟩
 obtain ⟨v,e2,ru⟩:=r.get e
 refine ⟨⟨vs,v,sq H1 M1 s,e2⟩,fun x H2 y=>?_⟩
 obtain ⟨rfl,y⟩:=y
 have:=y vs (sq _ M1 s)
 rw [e2] at this;cases this
 exact ⟨bE.refl _ _,rm,ru.stp s⟩
theorem PJ {a:Addr} {us:List U} {H:Hp} {M:aI}:Walk K (QE K a) ⟨some a,us⟩ H M:=by
 refine ⟨fun H1 M1 s rm ok i u e=>?_,fun H1 M1 s rm ok=>?_⟩
 ·obtain ⟨vs,h1,r⟩:=rm a _ (ok a rfl)
  obtain ⟨v,e2,ru⟩:=r.get e
  refine ⟨⟨vs,v,.inl (.inl h1),e2⟩,fun x H2 y=>?_⟩
  obtain ⟨rfl,y⟩:=y
  have:=y vs (.inl (.inl h1))
  rw [e2] at this;cases this
  exact ⟨bE.refl _ _,rm,ru⟩
 ·obtain ⟨vs,h1,r⟩:=rm a _ (ok a rfl)
  exact ⟨vs,.inl (.inl h1),by rw [r.length];exact Nat.le_refl _⟩
def Ti (z:Str):It:=⟨fun i _=>i < z.cps.size,fun i H x H'=>H'=H/\∃ c,z.cps[i]?=some c/\x=.str ⟨#[c]⟩,fun i _=>i=z.cps.size⟩
def chars (z:Str):List U:=z.cps.toList.map fun c=>.str ⟨#[c]⟩
theorem OX {z:Str} {H:Hp} {M:aI}:Walk K (Ti z) ⟨none,chars z⟩ H M:=by
 refine ⟨fun H1 M1 s rm _ i u e=>?_,fun H1 M1 s rm _=>?_⟩
 ·have hi:i < z.cps.size:=by
   have:=(List.getElem?_eq_some_iff.mp e).1
   simpa [chars] using this
  refine ⟨hi,fun x H2 y=>?_⟩
  obtain ⟨rfl,c,h1,rfl⟩:=y
  have:u=.str ⟨#[c]⟩:=by
   simp only [chars,List.getElem?_map,Array.getElem?_toList,h1,Option.map_some] at e
   exact (Option.some.inj e).symm
  subst this
  exact ⟨bE.refl _ _,rm,iD⟩
 ·show (chars z).length=z.cps.size
  simp [chars]
def UQ (K:PySem.W.Frag) (tl:TE):TI:=fun σ H R=>tl σ H fun x H1 =>
 (∃ a,x=.ref a/\(∃ xs,dM K H1 a xs)/\R (QE K a) H1)\/(∃ a,x=.ref a/\(∃ xs,fA K H1 a xs)/\R (Tg K a) H1)\/(∃ z,x=.str z/\R (Ti z) H1)
def m4 (te:UE):UI:=fun τ M R=>te τ M fun u M1=>match u with
 | .lst us=>R ⟨none,us⟩ M1
 | .tup us=>R ⟨none,us⟩ M1
 | .str z=>R ⟨none,chars z⟩ M1
 | .ref a=>match M1 a with
  | some (.lst us)=>R ⟨some a,us⟩ M1
  | _=>False
 | _=>False
theorem NP {te:TE} {te':UE} (h:b6 K te te'):sZ K (UQ K te) (m4 te'):=fun σ τ H M R' rs rm q R c=>h σ τ H M _ rs rm q _ fun u v M1 H1 s1 rm1 ru h1=>by
 cases u with
 | lst us =>
  simp only [aY] at ru
  obtain ⟨a,vs,rfl,m,r⟩:=ru
  refine .inl ⟨a,rfl,⟨vs,?_⟩,c _ _ M1 H1 s1 rm1 (Mf m r) h1⟩
  rcases m with ⟨_,m⟩ | k
  ·exact .inl m
  ·exact .inr k
 | tup us =>
  simp only [aY] at ru
  obtain ⟨a,vs,rfl,m,r⟩:=ru
  refine .inr (.inl ⟨a,rfl,⟨vs,?_⟩,c _ _ M1 H1 s1 rm1 (Pt m r) h1⟩)
  exact .inl (.inl m.2)
 | str z=>exact .inr (.inr ⟨z,ru.str,c _ _ M1 H1 s1 rm1 OX h1⟩)
 | ref a =>
  dsimp only at h1
  split at h1
  ·rename_i us e
   obtain ⟨vs,h2,r⟩:=rm1 a _ e
   exact .inl ⟨a,ru.ref,⟨vs,.inl (.inl h2)⟩,c _ _ M1 H1 s1 rm1 PJ h1⟩
  ·exact h1.elim
 | _=>exact h1.elim
def cA (lo:Int) (n:Nat):List U:=(List.range n).map fun (k:Nat)=>U.int (lo + (k:Int))
theorem Ku {lo:Int} {n:Nat} {H:Hp} {M:aI}:Walk K (Aa lo n) ⟨none,cA lo n⟩ H M:=by
 refine ⟨fun H1 M1 s rm _ i u e=>?_,fun H1 M1 s rm _=>?_⟩
 ·have hi:i < n:=by
   have:=(List.getElem?_eq_some_iff.mp e).1
   simpa [cA] using this
  refine ⟨hi,fun x H2 y=>?_⟩
  obtain ⟨rfl,rfl⟩:=y
  have:u=.int (lo + i):=by
   simp only [cA,List.getElem?_map,List.getElem?_range hi,Option.map_some] at e
   exact (Option.some.inj e).symm
  subst this
  exact ⟨bE.refl _ _,rm,cP⟩
 ·show n<=(cA lo n).length
  simp [cA]
def nE (ta:UA):UI:=fun τ M R=>ta τ M fun us M1=>match us with
 | [.int j]=>-(2 ^ 62)<=j/\j < 2 ^ 62/\R ⟨none,cA 0 j.toNat⟩ M1
 | _=>False
def qY (ta:UA):UI:=fun τ M R=>ta τ M fun us M1=>match us with
 | [.int i,.int j]=>(-(2 ^ 62)<=i/\i < 2 ^ 62/\-(2 ^ 62)<=j/\j < 2 ^ 62)/\R ⟨none,cA i (j - i).toNat⟩ M1
 | _=>False
theorem PQ {ta:TA} {ta':UA} (h:kD K ta ta'):sZ K (Qp ta) (nE ta'):=fun σ τ H M R' rs rm q R c=>h σ τ H M _ rs rm q _ fun us vs M1 H1 s1 rm1 ru h1=>by
 split at h1
 ·rename_i j
  obtain ⟨v,vs',rfl,a,b⟩:=ru.inv_cons
  cases b.inv_nil
  cases a.int
  exact ⟨j,rfl,h1.1,h1.2.1,c _ _ M1 H1 s1 rm1 Ku h1.2.2⟩
 ·exact h1.elim
abbrev dA:=List U->aI->UK->Prop
def gL (K:PySem.W.Frag) (sp:dA):Sp:=fun vs H Q _=>∃ us M Q',RelM K H M/\aS K H M us vs/\sp us M Q'/\cO K H M Q' Q
def nB (sp:dA) (dus:List U) (t:UA):UE:=fun τ M Q=>t τ M fun us M1=>sp (us++dus) M1 Q
theorem OJ {sp:dA} {dus:List U} {dvs:List V} {E:XK} {t:TA} {t':UA} (hd:∀ H M,aS K H M dus dvs) (h:kD K t t'):b6 K (HN (gL K sp) dvs E t) (nB sp dus t'):=fun σ τ H M Q' rs rm q Q c =>
 h σ τ H M _ rs rm q _ fun us vs M1 H1 s1 rm1 ru h1=>⟨us++dus,M1,Q',rm1,ru.append (hd _ _),h1,cO.stp c s1⟩
def Sub (M' M1:aI):Prop:=∀ b mo,M' b=some mo->M1 b=some mo
theorem Sub.refl (M:aI):Sub M M:=fun _ _ h=>h
theorem Sub.mup {M M1:aI} {p:Addr} {o:MO} (h:Sub M M1) (hp:M p=none):Sub M (mup M1 p o):=fun b mo e=>by
 have:b≠p:=fun z=>by subst z;rw [hp] at e;cases e
 rw [cB this];exact h b mo e
theorem Sub.less {M M1:aI} (h:Sub M M1) {H:Hp}:bE H M1 H M:=bE.less fun b e=>by
 cases q:M b with
 | none=>rfl
 | some mo=>rw [h b mo q] at e;cases e
theorem RelM.sub {H:Hp} {M M1:aI} (rm:RelM K H M1) (h:Sub M M1):RelM K H M:=fun a mo e=>(rm a mo (h a mo e)).stp (fun b q z=>h b _ z) (h.less) rfl
def Out (M1 M':aI) (u u':U):Prop:=u'=u\/∃ a us,u=.ref a/\M1 a=some (.lst us)/\M' a=none/\u'=.lst us
def jD (Q:UK):UK:=fun u M1=>∃ u' M',Sub M' M1/\Out M1 M' u u'/\Q u' M'
theorem jD.ok {H H1:Hp} {M M1:aI} {Q':UK} {Q:VK} {u:U} {v:V} (c:cO K H M Q' Q) (s:bE H M H1 M1) (rm:RelM K H1 M1) (ru:aY K H1 M1 u v) (h:jD Q' u M1):Q v H1:=by
 obtain ⟨u',M',sb,o,q⟩:=h
 have s':bE H1 M1 H1 M':=sb.less
 refine c u' v M' H1 (s.trans s') (rm.sub sb) ?_ q
 rcases o with rfl | ⟨a,us,rfl,h1,h2,rfl⟩
 ·exact ru.stp s'
 ·obtain ⟨vs,h3,h4⟩:=rm a _ h1
  cases ru.ref
  exact vU h2 h3 (h4.stp s')
def eL (N:List Str) (us:List U):SU:=us.map some++List.replicate (N.length - us.length) none
def Mo (M:aI) (x:U):Prop:=∃ us,view M x=.lst us
def uW (r:U->List U->aI->UK->Prop) (to:UE) (t:UA):UE:=fun τ M Q=>to τ M fun x M1=>Mo M1 x/\t τ M1 fun xs M2=>r x xs M2 Q
def rV (r:U->List U->aI->UK->Prop) (to:UE):UE:=fun τ M Q=>to τ M fun x M1=>Mo M1 x/\r x [] M1 Q
theorem Mo.ty {H:Hp} {M:aI} {u:U} {v:V} (rm:RelM K H M) (ru:aY K H M u v) (h:Mo M u):Qu K "list" v H:=by
 obtain ⟨us,h⟩:=h
 obtain ⟨a,vs,rfl,s,_⟩:=eB rm ru h
 exact .inl ⟨rfl,vs,s⟩
theorem Mv {r:V->List V->Hp->VK->Prop} {r':U->List U->aI->UK->Prop} {to:TE} {to':UE} {t:TA} {t':UA} (hr:xW K r r') (ho:b6 K to to') (h:kD K t t') :
  b6 K (Wt K "list" r to t) (uW r' to' t'):=fun σ τ H M Q' rs rm q Q c =>
 ho σ τ H M _ rs rm q _ fun u v M1 H1 s1 rm1 ru h1=>⟨h1.1.ty rm1 ru,h σ τ H1 M1 _ (rs.stp s1) rm1 h1.2 _ fun us vs M2 H2 s2 rm2 rus h2=>hr v vs u us H2 M2 Q' rm2 (ru.stp s2) rus h2 Q (cO.stp c (s1.trans s2))⟩
theorem RX {r:V->List V->Hp->VK->Prop} {r':U->List U->aI->UK->Prop} {to:TE} {to':UE} (hr:xW K r r') (ho:b6 K to to') :
  b6 K (SX K "list" r to) (rV r' to'):=fun σ τ H M Q' rs rm q Q c =>
 ho σ τ H M _ rs rm q _ fun u v M1 H1 s1 rm1 ru h1=>⟨h1.1.ty rm1 ru,hr v [] u [] H1 M1 Q' rm1 ru .nil h1.2 Q (cO.stp c s1)⟩
theorem cO.write {H:Hp} {M:aI} {Q':UK} {Q:VK} {a:Addr} {us us':List U} {xs':List V} {r:U} {v:V} (c:cO K H M Q' Q) (rm:RelM K H M) (e:M a=some (.lst us)) (r1:aS K H M us' xs') (r2:aY K H M r v) (q:Q' r (mup M a (.lst us'))):Q v (upd H a (.lst xs')):=by
 have st:bE H M (upd H a (.lst xs')) (mup M a (.lst us')):=bE.write e
 exact c _ _ _ _ st (rm.put st ⟨xs',b8,r1.stp st⟩) (r2.stp st) q
def iU:U->List U->aI->UK->Prop:=fun x ws M Q=>match x,ws with
 | .ref a,[w]=>match M a with
  | some (.lst us)=>us.length < sizeLine/\Q .non (mup M a (.lst (us++[w])))
  | _=>False
 | _,_=>False
theorem Ks:xW K Gw iU:=fun x xs u us H M Q' rm ru rus h Q c=>by
 unfold iU at h
 split at h
 ·rename_i a w
  split at h
  ·rename_i ws e
   obtain ⟨vs,h1,r⟩:=rm a _ e
   obtain ⟨v,vs',rfl,a1,b⟩:=rus.inv_cons
   cases b.inv_nil
   cases ru.ref
   exact ⟨a,vs,v,rfl,rfl,h1,by rw [<- r.length];exact h.1,c.write rm e (r.append (.cons a1 .nil)) kE h.2⟩
  ·exact h.elim
 ·exact h.elim
def o8:U->List U->aI->UK->Prop:=fun x ws M Q=>match x,ws with
 | .ref a,[]=>match M a with
  | some (.lst us)=>match us.getLast? with
   | some w=>Q w (mup M a (.lst us.dropLast))
   | none=>False
  | _=>False
 | _,_=>False
theorem Rq:xW K Ub o8:=fun x xs u us H M Q' rm ru rus h Q c=>by
 unfold o8 at h
 split at h
 ·rename_i a
  split at h
  ·rename_i ws e
   split at h
   ·rename_i w e2
    obtain ⟨vs,h1,r⟩:=rm a _ e
    cases rus.inv_nil
    cases ru.ref
    rw [List.getLast?_eq_getElem?] at e2
    obtain ⟨v,h3,h4⟩:=r.get e2
    exact ⟨a,vs,v,rfl,rfl,h1,by rw [<- r.length];exact h3,c.write rm e r.dropLast h4 h⟩
   ·exact h.elim
  ·exact h.elim
 ·exact h.elim
def Cq (K:PySem.W.Frag):V->List V->Hp->VK->Prop:=fun x vs H Q=>∃ l b xs zs,x=.ref l/\vs=[.ref b]/\H l=some (.lst xs)/\dM K H b zs/\xs.length + zs.length<=sizeLine/\Q .non (upd H l (.lst (xs++zs)))
def iQ:U->List U->aI->UK->Prop:=fun x ws M Q=>match x,ws with
 | .ref a,[w]=>match M a,view M w with
  | some (.lst us),.lst zs=>us.length + zs.length<=sizeLine/\Q .non (mup M a (.lst (us++zs)))
  | _,_=>False
 | _,_=>False
theorem Js:xW K (Cq K) iQ:=fun x xs u us H M Q' rm ru rus h Q c=>by
 unfold iQ at h
 split at h
 ·rename_i a w
  split at h
  ·rename_i ws zs e e2
   obtain ⟨vs,h1,r⟩:=rm a _ e
   obtain ⟨v,vs',rfl,a1,b⟩:=rus.inv_cons
   cases b.inv_nil
   cases ru.ref
   obtain ⟨b,zvs,rfl,s2,r2⟩:=eB rm a1 e2
   exact ⟨a,b,vs,zvs,rfl,rfl,h1,s2,by rw [<- r.length,<- r2.length];exact h.1,c.write rm e (r.append r2) kE h.2⟩
  ·exact h.elim
 ·exact h.elim
def oJ:U->List U->aI->UK->Prop:=fun x ws M Q=>match x,ws with
 | .ref a,[]=>match M a with
  | some (.lst us)=>Q .non (mup M a (.lst []))
  | _=>False
 | _,_=>False
def mU:List U->aI->UK->Prop:=fun us M Q=>match us with
 | [x]=>match view M x with
  | .lst ws=>Q (.int ws.length) M
  | .tup ws=>Q (.int ws.length) M
  | .str z=>z.length<=sizeLine/\Q (.int z.length) M
  | _=>False
 | _=>False
theorem Rz:qU K (fun xs H Q=>∃ x n,xs=[x]/\UR K x H n/\Q (.int n) H) mU:=fun xs us H M Q' rm rus h Q c=>by
 unfold mU at h
 split at h
 ·rename_i x
  obtain ⟨v,vs',rfl,a1,b⟩:=rus.inv_cons
  cases b.inv_nil
  split at h
  ·rename_i ws e
   obtain ⟨b,zvs,rfl,s2,r2⟩:=eB rm a1 e
   exact ⟨_,zvs.length,rfl,.inl ⟨zvs,s2,rfl⟩,c.here rm cP (by rw [<- r2.length];exact h)⟩
  ·rename_i ws e
   have e':=rW e
   subst e'
   obtain ⟨b,zvs,rfl,s2,r2⟩:=a1.tup
   exact ⟨_,zvs.length,rfl,.inr ⟨zvs,s2,rfl⟩,c.here rm cP (by rw [<- r2.length];exact h)⟩
  ·rename_i z e
   have e':=v8 e
   subst e'
   cases a1.str
   exact ⟨_,z.length,rfl,⟨h.1,rfl⟩,c.here rm cP h.2⟩
  ·exact h.elim
 ·exact h.elim
def qO (C:Int->Prop) (g:Int->U):List U->aI->UK->Prop:=fun us M Q=>match us with
 | [.int i]=>C i/\Q (g i) M
 | _=>False
def mH (g:Int->Int->U):List U->aI->UK->Prop:=fun us M Q=>match us with
 | [.int i,.int j]=>Q (g i j) M
 | _=>False
theorem aS.one {H:Hp} {M:aI} {u:U} {vs:List V} (h:aS K H M [u] vs):∃ v,vs=[v]/\aY K H M u v:=by
 obtain ⟨v,vs',rfl,a1,b⟩:=h.inv_cons
 cases b.inv_nil
 exact ⟨v,rfl,a1⟩
theorem aS.two {H:Hp} {M:aI} {u w:U} {vs:List V} (h:aS K H M [u,w] vs):∃ v z,vs=[v,z]/\aY K H M u v/\aY K H M w z:=by
 obtain ⟨v,vs',rfl,a1,b⟩:=h.inv_cons
 obtain ⟨z,rfl,b1⟩:=b.one
 exact ⟨v,z,rfl,a1,b1⟩
theorem OP:qU K (fun xs H Q=>∃ i j,xs=[.int i,.int j]/\Q (.int (if j < i then j else i)) H) (mH fun i j=>.int (if j < i then j else i)):=fun xs us H M Q' rm rus h Q c=>by
 unfold mH at h
 split at h
 ·rename_i i j
  obtain ⟨v,z,rfl,a,b⟩:=rus.two
  cases a.int
  cases b.int
  exact ⟨i,j,rfl,c.here rm cP h⟩
 ·exact h.elim
def rM (o:Bool):List U->aI->UK->Prop:=fun us M Q=>match us with
 | [x]=>match view M x with
  | .lst ws=>kB o ws M Q
  | .tup ws=>kB o ws M Q
  | _=>False
 | _=>False
def j1:List U->aI->UK->Prop:=fun us M Q=>match us with
 | [x]=>match view M x with
  | .lst ws=>Q (.tup ws) M
  | .tup ws=>Q (.tup ws) M
  | _=>False
 | _=>False
theorem Nz:qU K (fun xs H Q=>∃ p ys,xs=[.ref p]/\((dM K H p ys/\∀ l,H l=none->Q (.ref l) (upd H l (.tup ys)))\/(fA K H p ys/\Q (.ref p) H))) j1:=fun xs us H M Q' rm rus h Q c=>by
 unfold j1 at h
 split at h
 ·rename_i x
  obtain ⟨v,rfl,a1⟩:=rus.one
  split at h
  ·rename_i ws e
   obtain ⟨b,zvs,rfl,s2,r2⟩:=eB rm a1 e
   exact ⟨b,zvs,rfl,.inl ⟨s2,fun l hl=>c.tup rm r2 hl h⟩⟩
  ·rename_i ws e
   have e':=rW e
   subst e'
   have a2:=a1
   obtain ⟨b,zvs,rfl,s2,r2⟩:=a1.tup
   exact ⟨b,zvs,rfl,.inr ⟨s2,c.here rm a2 h⟩⟩
  ·exact h.elim
 ·exact h.elim
def aE (M:aI) (x:U):Option String:=match x with
 | .non=>some "NoneType"
 | .bl _=>some "bool"
 | .int _=>some "int"
 | .str _=>some "str"
 | .tup _=>some "tuple"
 | .lst _=>some "list"
 | .ref a=>match M a with
  | some (.lst _)=>some "list"
  | some (.dK _)=>some "dict"
  | some (.dT _)=>some "dict"
  | _=>none
 | .dic _ _ _=>some "dict"
 | .ty _=>none
def zO:U->U->Option Bool
 | .non,.non=>some true
 | .non,.int _=>some false | .int _,.non=>some false | .non,.bl _=>some false | .bl _,.non=>some false | .non,.str _=>some false | .str _,.non=>some false
 | .int i,.int j=>some (decide (i=j))
 | .bl i,.bl j=>some (decide (i=j))
 | .str i,.str j=>some (decide (i=j))
 | .int _,.str _=>some false | .str _,.int _=>some false | .bl _,.str _=>some false | .str _,.bl _=>some false
 | _,_=>none
def u7:dU:=fun x y M Q=>match zO x y with
 | some b=>Q (.bl b) M
 | none=>False
def vO:dU:=fun x y M Q=>match zO x y with
 | some b=>Q (.bl (!b)) M
 | none=>False
theorem GU {H:Hp} {M:aI} {x y:V} {u w:U} {b:Bool} (ru:aY K H M u x) (rw:aY K H M w y) (h:zO u w=some b):Hn x y=true/\decide (x=y)=b:=by
 cases u <;> cases w <;> simp only [zO,Option.some.injEq,reduceCtorEq] at h <;> subst h <;>
  (first
   | (cases ru.non) | (cases ru.bl) | (cases ru.int) | (cases ru.str)) <;>
  (first
   | (cases rw.non) | (cases rw.bl) | (cases rw.int) | (cases rw.str)) <;> simp [Hn]
def aD:U->Bool
 | .non=>true
 | _=>false
def pD:dU:=fun x y M Q=>match y with
 | .non=>Q (.bl (aD x)) M
 | _=>False
def rH:dU:=fun x y M Q=>match y with
 | .non=>Q (.bl (!aD x)) M
 | _=>False
theorem Sj {H:Hp} {M:aI} {x:V} {u:U} (ru:aY K H M u x):decide (x=.non)=aD u:=by
 cases u with
 | non=>cases ru.non;simp [aD]
 | bl b=>cases ru.bl;simp [aD]
 | int b=>cases ru.int;simp [aD]
 | str b=>cases ru.str;simp [aD]
 | ty b=>cases ru.ty;simp [aD]
 | ref b=>cases ru.ref;simp [aD]
 | tup b=>obtain ⟨a,vs,rfl,_⟩:=ru.tup;simp [aD]
 | lst b=>obtain ⟨a,vs,rfl,_⟩:=ru.lst;simp [aD]
 | dic ks tk us=>simp only [aY] at ru;obtain ⟨a,vs,rfl,_⟩:=ru;simp [aD]
theorem Q9:dO K (fun x y H Q=>y=.non/\Q (.bl (decide (x=.non))) H) pD:=fun x y u w H M Q' rm ru rw h Q c=>by
 unfold pD at h
 split at h
 ·exact ⟨rw.non,c.here rm (by rw [Sj ru];exact cL) h⟩
 ·exact h.elim
end
end U2
namespace U2
open PySem L2
def dR {α:Type} (k:Nat) (ix:List Nat) (σ:List (Option α)):List (Option α):=List.replicate k none++ix.map fun i=>(σ[i]?).getD none
def AL (k:Nat) (ix:List Nat) (wi:TI) (g:TG) (tc:TT) (te:TE):TE:=fun σ H Q=>wi σ H fun J H1=>∀ D,H1 D=none->∃ W:Nat->Nat->Hp->Prop,(∃ m,W 0 m (upd H1 D (.lst [])))/\∀ i m H,W i m H ->
 (J.stop i H/\Q (.ref D) H)\/(J.go i H/\∀ x H',J.yld i H x H'->g x (dR k ix σ) H' fun σ2 H2=>tc σ2 H2 fun ok H3 =>
  if ok=true then te σ2 H3 fun y H4=>∃ ys,H4 D=some (.lst ys)/\ys.length < sizeLine/\∃ m',m' < m/\W (i + 1) m' (upd H4 D (.lst (ys++[y]))) else ∃ m',m' < m/\W (i + 1) m' H3)
def Tb (o:Bool) (Q:UK) (D:Addr) (ys:List U) (M:aI):Prop:=match o with
 | true=>Q (.ref D) M
 | false=>∃ M',Sub M' M/\M' D=none/\Q (.lst ys) M'
def uN (o:Bool) (k:Nat) (ix:List Nat) (wi:UI) (g:UG) (tc:UT) (te:UE):UE:=fun τ M Q=>wi τ M fun S M1=>S.xs.length<=sizeLine/\∀ D,M1 D=none->∃ P:Nat->List U->aI->Prop,P 0 [] (mup M1 D (.lst [])) /\
 (∀ i ys M,P i ys M->S.ok M/\M D=some (.lst ys)/\ys.length<=i) /\
 (∀ i x ys M,S.xs[i]?=some x->P i ys M->g x (dR k ix τ) M fun τ2 M2=>tc τ2 M2 fun ok M3=>if ok=true then te τ2 M3 fun y M4=>M4 D=some (.lst ys)/\P (i + 1) (ys++[y]) (mup M4 D (.lst (ys++[y]))) else P (i + 1) ys M3) /\
 ∀ ys M,P S.xs.length ys M->Tb o Q D ys M
section
variable {K:PySem.W.Frag}
theorem O9 {H:Hp} {M:aI} {σ:St} {τ:SU} (k:Nat) (ix:List Nat) (r:cZ K H M σ τ):cZ K H M (dR k ix σ) (dR k ix τ):=by
 refine ⟨by simp [dR],fun i u e=>?_⟩
 unfold dR at e ⊢
 by_cases hi:i < k
 ·rw [List.getElem?_append_left (by simpa using hi),List.getElem?_replicate] at e
  split at e <;> cases e
 ·rw [List.getElem?_append_right (by simpa using Nat.le_of_not_lt hi),List.getElem?_map] at e ⊢
  simp only [List.length_replicate] at e ⊢
  cases q:ix[i - k]? with
  | none=>rw [q] at e;cases e
  | some j =>
   rw [q] at e
   simp only [Option.map_some,Option.some.injEq] at e ⊢
   cases z:τ[j]? with
   | none=>rw [z] at e;cases e
   | some w =>
    rw [z] at e
    simp only [Option.getD_some] at e
    subst e
    obtain ⟨v,h1,h2⟩:=r.2 j u z
    exact ⟨v,by rw [h1];rfl,h2⟩
theorem BG {o:Bool} {k:Nat} {ix:List Nat} {wi:TI} {wi':UI} {g:TG} {g':UG} {tc:TT} {tc':UT} {te:TE} {te':UE} (hi:sZ K wi wi') (hg:vX K g g') (hc:i9 K tc tc') (he:b6 K te te') :
  b6 K (AL k ix wi g tc te) (uN o k ix wi' g' tc' te'):=fun σ τ H M Q' rs rm h Q c=>by
 refine hi σ τ H M _ rs rm h _ fun J S M1 H1 s1 rm1 w h=>?_
 obtain ⟨hz,h⟩:=h
 intro D hD
 obtain ⟨P,p0,inv,turn,fin⟩:=h D (rm1.no hD)
 have sD:bE H1 M1 (upd H1 D (.lst [])) (mup M1 D (.lst [])):=bE.own rm1 hD
 have rmD:RelM K (upd H1 D (.lst [])) (mup M1 D (.lst [])):=rm1.put sD ⟨[],b8,.nil⟩
 refine ⟨fun i m H2=>∃ M2 ys,bE H1 M1 H2 M2/\RelM K H2 M2/\P i ys M2/\i<=S.xs.length/\m=S.xs.length - i,⟨_,_,[],sD,rmD,p0,Nat.zero_le _,rfl⟩,?_⟩
 rintro i m H2 ⟨M2,ys,s2,rm2,p2,hle,rfl⟩
 obtain ⟨ok2,d2,l2⟩:=inv i ys M2 p2
 by_cases hlt:i < S.xs.length
 ·obtain ⟨go,yl⟩:=w.step H2 M2 s2 rm2 ok2 i S.xs[i] (by simp [hlt])
  refine .inr ⟨go,fun x H3 y=>?_⟩
  obtain ⟨s3,rm3,ru⟩:=yl x H3 y
  have rs3:cZ K H3 M2 (dR k ix σ) (dR k ix τ):=O9 k ix (((rs.stp s1).stp s2).stp s3)
  refine hg _ x _ _ H3 M2 _ ru rs3 rm3 (turn i S.xs[i] ys M2 (by simp [hlt]) p2) _ fun σ4 τ4 H4 M4 s4 rm4 rs4 q4=>?_
  refine hc σ4 τ4 H4 M4 _ rs4 rm4 q4 _ fun b M5 H5 s5 rm5 q5=>?_
  have s25:bE H1 M1 H5 M5:=((s2.trans s3).trans s4).trans s5
  cases b with
  | false =>
   exact ⟨S.xs.length - (i + 1),by omega,M5,ys,s25,rm5,q5,hlt,rfl⟩
  | true =>
   refine he σ4 τ4 H5 M5 _ (rs4.stp s5) rm5 q5 _ fun u v M6 H6 s6 rm6 ru6 q6=>?_
   obtain ⟨d6,p6⟩:=q6
   obtain ⟨vs,h6,r6⟩:=rm6 D _ d6
   have l6:vs.length < sizeLine:=by rw [<- r6.length];omega
   have s7:bE H6 M6 (upd H6 D (.lst (vs++[v]))) (mup M6 D (.lst (ys++[u]))):=bE.write d6
   exact ⟨vs,h6,l6,S.xs.length - (i + 1),by omega,_,ys++[u],(s25.trans s6).trans s7,rm6.put s7 ⟨_,b8,(r6.append (.cons ru6 .nil)).stp s7⟩,p6,hlt,rfl⟩
 ·have e:i=S.xs.length:=by omega
  subst e
  refine .inl ⟨w.stop H2 M2 s2 rm2 ok2,?_⟩
  have q:=fin ys M2 p2
  cases o with
  | true=>exact c _ _ M2 H2 (s1.trans s2) rm2 rN q
  | false =>
   obtain ⟨M',sb,n,q⟩:=q
   obtain ⟨vs,h6,r6⟩:=rm2 D _ d2
   have s':bE H2 M2 H2 M':=sb.less
   exact c _ _ M' H2 ((s1.trans s2).trans s') (rm2.sub sb) (vU n h6 (r6.stp s')) q
end
theorem Lo {o:Bool} {k:Nat} {ix:List Nat} {wi:UI} {g:UG} {tc:UT} {te:UE} {τ:SU} {M1:aI} {Q:UK} {S:Src} (f:U->Option U) (hz:S.xs.length<=sizeLine) (hs:S.ok M1)
  (h:∀ x∈S.xs,∀ M,Sub M1 M->∀ R:Option U->aI->Prop,R (f x) M->g x (dR k ix τ) M fun τ2 M2=>tc τ2 M2 fun ok M3=>if ok=true then te τ2 M3 fun y M4=>R (some y) M4 else R none M3)
  (q:kB o (S.xs.filterMap f) M1 Q):S.xs.length<=sizeLine/\∀ D,M1 D=none->∃ P:Nat->List U->aI->Prop,P 0 [] (mup M1 D (.lst [])) /\
 (∀ i ys M,P i ys M->S.ok M/\M D=some (.lst ys)/\ys.length<=i) /\
 (∀ i x ys M,S.xs[i]?=some x->P i ys M->g x (dR k ix τ) M fun τ2 M2=>tc τ2 M2 fun ok M3=>if ok=true then te τ2 M3 fun y M4=>M4 D=some (.lst ys)/\P (i + 1) (ys++[y]) (mup M4 D (.lst (ys++[y]))) else P (i + 1) ys M3) /\
 ∀ ys M,P S.xs.length ys M->Tb o Q D ys M:=by
 refine ⟨hz,fun D hD=>⟨fun i ys M=>ys=(S.xs.take i).filterMap f/\M=mup M1 D (.lst ys)/\i<=S.xs.length,⟨by simp,rfl,Nat.zero_le _⟩,?_,?_,?_⟩⟩
 ·rintro i ys M ⟨rfl,rfl,hi⟩
  refine ⟨fun a e=>?_,aX,?_⟩
  ·have:=hs a e
   rw [cB (fun z=>by subst z;rw [hD] at this;cases this)]
   exact this
  ·refine Nat.le_trans (List.length_filterMap_le _ _) ?_
   rw [List.length_take];omega
 ·rintro i x ys M e ⟨rfl,rfl,hi⟩
  have hlt:i < S.xs.length:=(List.getElem?_eq_some_iff.mp e).1
  have hx:x∈S.xs:=List.mem_of_getElem? e
  have tk:(S.xs.take (i + 1)).filterMap f=(S.xs.take i).filterMap f++(f x).toList:=by
   rw [List.take_add_one,e,List.filterMap_append]
   cases q:f x <;> simp [q]
  refine h x hx (mup M1 D (.lst ((S.xs.take i).filterMap f))) ((Sub.refl M1).mup hD) (fun r M4=>match r with
   | some y=>M4 D=some (.lst ((S.xs.take i).filterMap f))/\((S.xs.take i).filterMap f++[y]=(S.xs.take (i + 1)).filterMap f/\mup M4 D (.lst ((S.xs.take i).filterMap f++[y]))=mup M1 D (.lst ((S.xs.take i).filterMap f++[y]))/\i + 1<=S.xs.length)
   | none=>(S.xs.take i).filterMap f=(S.xs.take (i + 1)).filterMap f/\M4=mup M1 D (.lst ((S.xs.take i).filterMap f))/\i + 1<=S.xs.length) ?_
  rw [tk]
  cases f x with
  | none=>exact ⟨by simp,rfl,hlt⟩
  | some y=>exact ⟨aX,rfl,bU,hlt⟩
 ·rintro ys M ⟨rfl,rfl,hi⟩
  rw [List.take_length]
  cases o with
  | true=>exact q D hD
  | false=>exact ⟨M1,(Sub.refl M1).mup hD,hD,q⟩
end U2
namespace U2
open PySem PySem.Spec PyProof.Rows L2
theorem Cp {P:Program} {w:World} {K:PySem.W.Frag} {tg:Expr} {ty:String} (z:Str) (t:Tok) (it:Addr)
  (W:∀ A':Around,A'.handled=none->Walks P w A' it [it] [it] z.cps.size (SignAt z) (fun i h=>h.IsStrIter it ty z t i))
  (hty:["enumerate","zip","dict_itemiterator","dict_reverseitemiterator","odict_iterator","itertools.zip_longest","itertools.pairwise"].contains ty=false)
  (self:∀ (A:Around) (i:Nat) (s:Shared) (Q:Value->Shared->Prop) (E:Value->Shared->Prop),s.heap.IsStrIter it ty z t i->Q (.ref it) s->wpAny (model P w) A (pyIter (.ref it)) Q E s) :
  Turn P w K tg (Ti z) [it] it (fun i h=>h.IsStrIter it ty z t i) where
 mem:=by simp
 obj:=fun i h st b hb=>by
  have e:b=it:=by simpa using hb
  subst e
  obtain ⟨o,e,c,d⟩:=st
  exact ⟨o,e,fun v z=>by rw [d] at z;cases z⟩
 keep:=fun i h h' st k=>let ⟨o,ho,r⟩:=st;⟨o,k it (by simp) o ho,r⟩
 item:=by
  intro X hP hw hK hc i pins s σ H E I hf st hg
  subst hP hw hK
  obtain ⟨f0,f1,f2,f3,f4,f5⟩:=hf it (by simp)
  refine (W X.A (I.ok.hd hc)).item i s _ E hg st fun v h' tk hv st' k=>?_
  obtain ⟨c,u,hc',rfl⟩:=hv
  have I1:Inv X pins σ H { s with heap:=h',toks:=tk }:=I.turned (t':=tk) (fun b o hb e=>k b o (by simpa using hb) e) f0 f1 f3 f4 f5
  obtain ⟨o,e,cl,d⟩:=id st'
  exact ⟨_,rfl,tR (s:={ s with heap:=h',toks:=tk }) e cl d hty ⟨.str ⟨#[c]⟩,H,I1,⟨_,rfl⟩,⟨rfl,c,hc',rfl⟩,st',fun b hb=>(hf b hb).1⟩⟩
 done:=by
  intro X hP hw hK hc i pins s σ H E I hf st hg
  subst hP hw hK
  have hg':i=z.cps.size:=hg
  subst hg'
  obtain ⟨f0,f1,f2,f3,f4,f5⟩:=hf it (by simp)
  exact (W X.A (I.ok.hd hc)).done s _ E st fun h' tk k=>⟨rfl,I.turned (t':=tk) (fun b o hb e=>k b o (by simpa using hb) e) f0 f1 f3 f4 f5⟩
 self:=self
section
variable {X:Cx} {tg:Expr}
theorem Tf {l:Expr} {tl:TE} (hl:PE X l tl):PI X tg l (UQ X.K tl):=by
 intro pins s σ H R I h
 refine bP (hl pins s σ H _ I h) fun v s1 ⟨x,H1,I1,r1,q1⟩=>?_
 have fp:∀ b∈[s1.heap.objs.size],kF X pins H1 b:=fun b hb=>by
  have e:b=s1.heap.objs.size:=by simpa using hb
  subst e
  exact I1.fpOk (Nat.le_refl _) (I1.hok.fresh (Nat.le_refl _))
 rcases q1 with ⟨a,rfl,⟨xs,hq⟩,q⟩ | ⟨a,rfl,⟨xs,hq⟩,q⟩ | ⟨z,rfl,q⟩
 ·cases r1
  obtain ⟨its,rv,p,hz⟩:=I1.list hq
  refine wpAny_pyIter_list p.isList ?_
  exact ⟨s1.heap.objs.size,[s1.heap.objs.size],_,_,H1,rfl,I1.kept (t':=s1.toks) fun b o e=>Heap.get?_push_of_some _ e,Li a _,⟨_,Heap.get?_push_size _ rfl,rfl,rfl⟩,fp,q⟩
 ·cases r1
  obtain ⟨its,rv,p,hz⟩:=I1.tuple hq
  refine wpAny_pyIter_tuple (show s1.heap.IsTuple a its.toArray from p) ?_
  exact ⟨s1.heap.objs.size,[s1.heap.objs.size],_,_,H1,rfl,I1.kept (t':=s1.toks) fun b o e=>Heap.get?_push_of_some _ e,IF a _,⟨_,Heap.get?_push_size _ rfl,rfl,rfl⟩,fp,q⟩
 ·obtain ⟨t,rfl⟩:=r1
  cases ha:z.cps.all (· < 128)
  ·refine wpAny_pyIter_wide ha ?_
   exact ⟨s1.heap.objs.size,[s1.heap.objs.size],_,_,H1,rfl,I1.kept (t':=s1.toks) fun b o e=>Heap.get?_push_of_some _ e,
    Cp z t _ (fun A' hA=>Walks.strWide hA _ z t) (by decide) (fun A i s Q E st h=>wpAny_pyIter_striter_wide st h),⟨_,Heap.get?_push_size _ rfl,rfl,rfl⟩,fp,q⟩
  ·refine wpAny_pyIter_ascii ha ?_
   exact ⟨s1.heap.objs.size,[s1.heap.objs.size],_,_,H1,rfl,I1.kept (t':=s1.toks) fun b o e=>Heap.get?_push_of_some _ e,
    Cp z t _ (fun A' hA=>Walks.strAscii hA _ z t) (by decide) (fun A i s Q E st h=>wpAny_pyIter_striter_ascii st h),⟨_,Heap.get?_push_size _ rfl,rfl,rfl⟩,fp,q⟩
end
section
variable {prog:Program} {w:World} {A:Around} {R:Result->Shared->Prop} {s:Shared}
theorem FK {elt target iter:Expr} {ifs:List Expr} {scope:Scope} {pos:Pos} {it acc:Value} {env:Env} (I:Nat->Shared->Prop)
  (turn:∀ n s,I n s->wpAny (model prog w) A (pyNext it) (fun r s₁=>match r with
   | none=>R (.ok .next) s₁
   | some v=>wpAny (model prog w) A (letOwnedTupleGo target it v) (fun _ s₀=>wpAny (model prog w) A (assign target env v) (fun _ s₂ =>
     wpAny (model prog w) A (forIn ifs true fun c r=>if r=true then do let ok <- isTrue c env (eval c env);pure (ForInStep.yield ok) else pure (ForInStep.yield r)) (fun ok s₃ =>
      if ok=true then wpAny (model prog w) A (eval elt env) (fun x s₄ =>
       wpAny (model prog w) A (call (.builtin "list.append") [acc,x]) (fun _ s₅=>∃ m,m < n/\I m s₅) (fun _ _=>False) s₄) (fun _ _=>False) s₃
      else ∃ m,m < n/\I m s₃) (fun _ _=>False) s₂) (fun _ _=>False) s₀) (fun _ _=>False) s₁) (fun _ _=>False) s)
  (n:Nat) (h:I n s) :
  codeAny (model prog w) A (.compLoop (.ListComp elt [⟨target,iter,ifs,0⟩] scope pos) 0 it acc env) R s:=by
 refine codeAny_loop rfl I (fun n s hI=>?_) n h
 show wpAny _ A ((compTurn (.ListComp elt [⟨target,iter,ifs,0⟩] scope pos) 0 it acc env).onRaise (fun x=>do noteFrame x env;theTreesLotGoes x)) _ _ s
 refine wpAny_noted ?_
 rw [compTurn_list]
 refine wpAny_bind (wpAny_standAt (wpAny_bind (wpAny_mono (turn n s hI) (fun r s₁ h₁=>?_) fun _ _ h'=>h'.elim)))
 cases r with
 | none=>exact wpAny_pure h₁
 | some v =>
  refine wpAny_bind (wpAny_mono h₁ (fun _ s₀ h₀=>?_) fun _ _ h'=>h'.elim)
  refine wpAny_bind (wpAny_mono h₀ (fun _ s₂ h₂=>wpAny_bind (wpAny_mono h₂ (fun ok s₃ h₃=>?_) fun _ _ h'=>h'.elim)) fun _ _ h'=>h'.elim)
  cases ok with
  | false=>exact wpAny_pure ⟨rfl,h₃⟩
  | true =>
   exact wpAny_bind (wpAny_bind (wpAny_mono h₃ (fun x s₄ h₄=>wpAny_bind (wpAny_mono h₄ (fun _ s₅ h₅=>wpAny_pure (wpAny_pure ⟨rfl,h₅⟩)) fun _ _ h'=>h'.elim)) fun _ _ h'=>h'.elim))
theorem rT {env:Env}:∀ (names:List (Str × NameKind)) (cs:List (Str × Addr)),(∀ x∈names,x.2=.free->∃ c,env.cells.lookup x.1=some c) ->
  (∀ x c,cs.lookup x=some c->env.cells.lookup x=some c) ->
  ∃ cl,(forIn names cs fun (x:Str × NameKind) (cs:List (Str × Addr))=>(if (x.2 == NameKind.free)=true then do let c <- cellOf env x.1;pure (ForInStep.yield ((x.1,c) :: cs)) else pure (ForInStep.yield cs):Sem (ForInStep (List (Str × Addr)))))=pure cl /\
   (∀ x c,cl.lookup x=some c->env.cells.lookup x=some c)/\(∀ x,(∃ c,cs.lookup x=some c)\/(x,NameKind.free)∈names->∃ c,cl.lookup x=some c)
 | [],cs,_,h=>⟨cs,rfl,h,fun x hx=>by rcases hx with hx | hx;exact hx;cases hx⟩
 | (n,k) :: r,cs,hf,h=>by
  rw [List.forIn_cons]
  by_cases hk:k=.free
  ·subst hk
   obtain ⟨c,hc⟩:=hf (n,.free) List.mem_cons_self rfl
   have e:cellOf env n=pure c:=by unfold cellOf;rw [hc]
   simp only [beq_self_eq_true,if_true,e,pure_bind]
   obtain ⟨cl,h1,h2,h3⟩:=rT r ((n,c) :: cs) (fun x hx=>hf x (List.mem_cons_of_mem _ hx)) (fun x d q=>by
    rw [List.lookup_cons] at q
    split at q
    ·rename_i e;cases q;rw [beq_iff_eq.mp e];exact hc
    ·exact h x d q)
   refine ⟨cl,h1,h2,fun x hx=>h3 x ?_⟩
   rcases hx with ⟨d,hd⟩ | hx
   ·left
    rw [List.lookup_cons]
    split
    ·exact ⟨_,rfl⟩
    ·exact ⟨d,hd⟩
   ·rcases List.mem_cons.mp hx with e | hx
    ·left;cases e;exact ⟨c,by simp [List.lookup_cons]⟩
    ·exact .inr hx
  ·have hb:(k == NameKind.free)=false:=by simpa using hk
   simp only [hb,Bool.false_eq_true,if_false,pure_bind]
   obtain ⟨cl,h1,h2,h3⟩:=rT r cs (fun x hx=>hf x (List.mem_cons_of_mem _ hx)) h
   refine ⟨cl,h1,h2,fun x hx=>h3 x ?_⟩
   rcases hx with hx | hx
   ·exact .inl hx
   ·rcases List.mem_cons.mp hx with e | hx
    ·cases e;exact absurd rfl hk
    ·exact .inr hx
theorem IM {env:Env} {scope:Scope} (hf:∀ x∈scope.names,x.2=.free->∃ c,env.cells.lookup x.1=some c) :
  ∃ cl,closureFor scope env=pure cl/\(∀ x c,cl.lookup x=some c->env.cells.lookup x=some c)/\(∀ x,(x,NameKind.free)∈scope.names->∃ c,cl.lookup x=some c):=by
 obtain ⟨cl,h1,h2,h3⟩:=rT (env:=env) scope.names [] hf (fun x c h=>by cases h)
 refine ⟨cl,?_,h2,fun x hx=>h3 x (.inr hx)⟩
 unfold closureFor
 first
  | exact h1
  | (have:_:=h1;simpa using this)
end
def dP (X:Cx) (N:List Str) (scope:Scope) (cl:List (Str × Addr)) (C:Addr) (s:Shared) (H:Hp) (fp:List Addr):Cx where
 prog:=X.prog
 w:=X.w
 K:=X.K
 mg:=X.mg
 base:=X.base
 A:=X.A
 N:=N
 s₀:=s
 H₀:=H
 env:=compEnvC scope cl C X.env
 outer:=X.stack
 stack:=X.stack
 ex:=fp
 fn:=fun _=>false
 calm:=X.calm
 pn:=[]
 xe:=fun _ _=>False
def Gb (X:Cx) (ifs:List Expr) (t:TT):Prop :=
 ∀ (pins:List (Addr × Obj)) (s:Shared) (σ:L2.St) (H:Hp) (Q:Bool->Hp->Prop),Inv X pins σ H s->t σ H Q ->
  wpAny (model X.prog X.w) X.A (forIn ifs true fun c r=>if r=true then do let ok <- isTrue c X.env (eval c X.env);pure (ForInStep.yield ok) else pure (ForInStep.yield r)) (TP X pins σ Q) X.xe s
def Uy:TT:=fun _ H Q=>Q true H
theorem Sq {X:Cx}:Gb X [] Uy:=fun pins s σ H Q I h=>wpAny_tests_nil ⟨H,I,h⟩
theorem Sr {X:Cx} {c:Expr} {t:TT} (h:PT X c t):Gb X [c] t:=fun pins s σ H Q I q=>wpAny_tests_one (h pins s σ H Q I q)
def GK (k:Nat) (g:TG):Prop:=∀ x σ H Q,g x σ H Q->g x σ H (fun σ2 H2=>(∀ j,k<=j->σ2[j]?=σ[j]?)/\Q σ2 H2)
def Lh (k:Nat) (g:oH):Prop:=∀ xs σ H Q,g xs σ H Q->g xs σ H (fun σ2 H2=>(∀ j,k<=j->σ2[j]?=σ[j]?)/\Q σ2 H2)
theorem Rc {k i:Nat} (h:i < k):GK k (qW i):=fun x σ H Q q=>⟨fun j hj=>by rw [List.getElem?_set,if_neg (by omega)],q⟩
theorem Ud {k:Nat}:Lh k Dn:=fun xs σ H Q q=>⟨q.1,fun j _=>rfl,q.2⟩
theorem QG {k:Nat} {g:TG} {r:oH} (h1:GK k g) (h2:Lh k r) (m2:∀ xs σ H Q Q',(∀ σ2 H2,Q σ2 H2->Q' σ2 H2)->r xs σ H Q->r xs σ H Q') (m1:∀ x σ H Q Q',(∀ σ2 H2,Q σ2 H2->Q' σ2 H2)->g x σ H Q->g x σ H Q'):Lh k (yB g r):=fun xs σ H Q q=>by
 obtain ⟨v,r',rfl,q⟩:=q
 refine ⟨v,r',rfl,m1 _ _ _ _ _ (fun σ2 H2 z=>?_) (h1 _ _ _ _ q)⟩
 exact m2 _ _ _ _ _ (fun σ3 H3 y=>⟨fun j hj=>(y.1 j hj).trans (z.1 j hj),y.2⟩) (h2 _ _ _ _ z.2)
theorem Ur {i:Nat}:∀ x σ H (Q Q':L2.St->Hp->Prop),(∀ σ2 H2,Q σ2 H2->Q' σ2 H2)->qW i x σ H Q->qW i x σ H Q':=fun x σ H Q Q' h q=>h _ _ q
theorem Wc:∀ xs σ H (Q Q':L2.St->Hp->Prop),(∀ σ2 H2,Q σ2 H2->Q' σ2 H2)->Dn xs σ H Q->Dn xs σ H Q':=fun x σ H Q Q' h q=>⟨q.1,h _ _ q.2⟩
theorem Vb {g:TG} {r:oH} (m1:∀ x σ H Q Q',(∀ σ2 H2,Q σ2 H2->Q' σ2 H2)->g x σ H Q->g x σ H Q') (m2:∀ xs σ H Q Q',(∀ σ2 H2,Q σ2 H2->Q' σ2 H2)->r xs σ H Q->r xs σ H Q') :
  ∀ xs σ H (Q Q':L2.St->Hp->Prop),(∀ σ2 H2,Q σ2 H2->Q' σ2 H2)->yB g r xs σ H Q->yB g r xs σ H Q':=fun xs σ H Q Q' h q=>by
 obtain ⟨v,r',rfl,q⟩:=q
 exact ⟨v,r',rfl,m1 _ _ _ _ _ (fun σ2 H2 z=>m2 _ _ _ _ _ h z) q⟩
theorem TJ {K:PySem.W.Frag} {k n:Nat} {r:oH} (h:Lh k r):GK k (B6 K n r):=fun x σ H Q q=>by
 obtain ⟨a,xs,rfl,h1,h2,q⟩:=q
 exact ⟨a,xs,rfl,h1,h2,h _ _ _ _ q⟩
theorem Wd {K:PySem.W.Frag} {n:Nat} {r:oH} (m2:∀ xs σ H Q Q',(∀ σ2 H2,Q σ2 H2->Q' σ2 H2)->r xs σ H Q->r xs σ H Q') :
  ∀ x σ H (Q Q':L2.St->Hp->Prop),(∀ σ2 H2,Q σ2 H2->Q' σ2 H2)->B6 K n r x σ H Q->B6 K n r x σ H Q':=fun x σ H Q Q' h q=>by
 obtain ⟨a,xs,rfl,h1,h2,q⟩:=q
 exact ⟨a,xs,rfl,h1,h2,m2 _ _ _ _ _ h q⟩
theorem zW {X:Cx} {tg elt iter:Expr} {ifs:List Expr} {scope:Scope} {pos:Pos} {N:List Str} {k:Nat} {ix:List Nat} {wi:TI} {g:TG} {tc:TT} {te:TE}
  (hc:X.calm=true) (hi:PI X tg iter wi) (gk:GK k g)
  (hk:scope.kind=.function) (hcell:∀ y∈scope.names,y.2≠.cell) (hnames:∀ y∈scope.names,y.2=.local->scope.names.lookup y.1=some .local)
  (hfree:∀ y∈scope.names,y.2=.free->X.env.kindOf y.1=some .cell\/X.env.kindOf y.1=some .free)
  (hone:∀ y∈scope.names,y.2=.free->scope.names.lookup y.1=some .free)
  (hN:∀ (j:Nat) x,N[k + j]?=some x->∃ i,ix[j]?=some i/\X.N[i]?=some x)
  (hcap:∀ (j:Nat) x,N[k + j]?=some x->scope.names.lookup x=some .free)
  (hlen:N.length=k + ix.length)
  (hg:∀ cl C s H fp,PG (dP X N scope cl C s H fp) tg g)
  (hif:∀ cl C s H fp,Gb (dP X N scope cl C s H fp) ifs tc)
  (he:∀ cl C s H fp,PE (dP X N scope cl C s H fp) elt te)
  (hs:∀ x,foldedSetIterable iter X.env x=pure x) {pins:List (Addr × Obj)} {s:Shared} {σ:L2.St} {H:Hp} {Q:VK} (I:L2.Inv X pins σ H s) (h:AL k ix wi g tc te σ H Q) {pos':Pos} {use:Option (Value->Sem Unit)} {QQ:Value->Shared->Prop}
  (end_:∀ (D C:Addr) (H3:Hp) (s4:Shared),L2.Inv X pins σ H3 s4->(∃ m,s4.heap.Ns C m)->H3 C=none->C≠X.env.locals->X.s₀.heap.objs.size<=C->(∀ x c,X.env.cells.lookup x=some c->c≠C)->(∀ p∈X.pn++pins,p.1≠C) ->
   (∀ h':Heap,Heap.SameBut C s4.heap h'->L2.Inv X pins σ H3 { s4 with heap:=h' })->Q (.ref D) H3->compPost (model X.prog X.w) X.A X.xe use QQ (.ref D) C (.ok .next) s4) :
  wpAny (model X.prog X.w) X.A (comprehension (.ListComp elt [⟨tg,iter,ifs,0⟩] scope pos) scope X.env pos' (newList []) false (eval iter X.env) use) QQ X.xe s:=by
 obtain ⟨cl,hclos,hcl,hcl2⟩:=IM (env:=X.env) (scope:=scope) (fun x hx e=>I.ok.has x.1 (hfree x hx e))
 refine wpAny_comprehension_free (use:=use) rfl hs hclos hk hnames (bP (hi pins s σ H _ I h) fun v s1 h1=>bP h1 fun itv s2 h2=>?_)
 obtain ⟨it,fp,tn,J,H2,rfl,I2,T,j0,f2,h2⟩:=h2
 refine wpAny_newObj_type (wpAny_newFunctionEnv hcell (by intro y hy;simp at hy) (fun h₁ hns₁ hsb₁=>?_) hk)
 dsimp only at hns₁ hsb₁ ⊢
 generalize hP:s2.heap.push { cls:=.type "list",dict:=none,data:=.seq ([]:List Value).toArray }=P2 at hns₁ hsb₁ ⊢
 have hCs:P2.objs.size=s2.heap.objs.size + 1:=by rw [<- hP,Heap.size_push]
 have below:∀ b,b < s2.heap.objs.size->b≠P2.objs.size:=fun b hb=>by rw [hCs];omega
 have old:∀ b o,s2.heap.get? b=some o->h₁.get? b=some o:=fun b o e=>hsb₁.extBut b o (below b (Heap.lt_size e)) (Heap.get?_push_of_some _ (hP ▸ Heap.get?_push_of_some _ e))
 have hacc:h₁.get? s2.heap.objs.size=some { cls:=.type "list",dict:=none,data:=.seq ([]:List Value).toArray }:=hsb₁.extBut _ _ (show s2.heap.objs.size≠P2.objs.size by rw [hCs];exact Nat.ne_of_lt (Nat.lt_succ_self _)) (Heap.get?_push_of_some _ (hP ▸ Heap.get?_push_size _ rfl))
 obtain ⟨W,⟨m0,w0⟩,turn⟩:=h2 s2.heap.objs.size (I2.hok.fresh (Nat.le_refl _))
 have fpl:∀ b∈fp,b < s2.heap.objs.size:=fun b hb=>let ⟨o,e,_⟩:=T.obj _ _ j0 b hb;Heap.lt_size e
 have σl:(dR k ix σ).length=N.length:=by rw [hlen];simp [dR]
 have i2:=I2.ok
 have ok':(dP X N scope cl P2.objs.size s2 H2 fp).Ok:=by
  refine ⟨i2.mod,hk,i2.glob,i2.blt,(by show s2.heap.objs.size<=P2.objs.size;rw [hCs];exact Nat.le_succ _),fun x y c e1 e2=>i2.inj x y c (hcl x c e1) (hcl y c e2),fun x hx=>?_,(fun x c e=>by cases e),i2.hd,i2.frames,.inl rfl,fun b hb=>?_,fun b o e=>I2.bs b o e,Nat.le_trans i2.bsz I2.sz,fun b o e hb=>?_,fun b hb hb2=>?_,I2.stack,I2.stkFree⟩
  ·
   have hx':(relabel scope X.env).names.lookup x=some .cell\/(relabel scope X.env).names.lookup x=some .free:=hx
   have key:∀ (names:List (Str × NameKind)),(∀ y∈names,y.2≠.cell)->((names.map fun (n,k)=>if (k == NameKind.free && X.env.scope.kind == .function && X.env.kindOf n == some .cell) then (n,NameKind.cell) else (n,k)).lookup x=some .cell \/
     (names.map fun (n,k)=>if (k == NameKind.free && X.env.scope.kind == .function && X.env.kindOf n == some .cell) then (n,NameKind.cell) else (n,k)).lookup x=some .free)->(x,NameKind.free)∈names:=by
    intro names
    induction names with
    | nil=>intro _ h;rcases h with h | h <;> cases h
    | cons y r ih =>
     obtain ⟨n,kd⟩:=y
     intro hnc h
     by_cases hxn:x=n
     ·subst hxn
      have hkc:kd≠.cell:=hnc (x,kd) List.mem_cons_self
      by_cases hkf:kd=.free
      ·subst hkf;exact List.mem_cons_self
      ·exfalso
       have hb:(kd == NameKind.free)=false:=by simpa using hkf
       simp only [List.map_cons,hb,Bool.false_and,Bool.false_eq_true,if_false,List.lookup_cons,beq_self_eq_true] at h
       rcases h with h | h
       ·exact hkc (Option.some.inj h)
       ·exact hkf (Option.some.inj h)
     ·have hb:(x == n)=false:=by simpa using hxn
      refine List.mem_cons_of_mem _ (ih (fun y hy=>hnc y (List.mem_cons_of_mem _ hy)) ?_)
      have e1:∀ z:NameKind,List.lookup x (((n,z)) :: (r.map fun (n,k)=>if (k == NameKind.free && X.env.scope.kind == .function && X.env.kindOf n == some .cell) then (n,NameKind.cell) else (n,k)))=List.lookup x (r.map fun (n,k)=>if (k == NameKind.free && X.env.scope.kind == .function && X.env.kindOf n == some .cell) then (n,NameKind.cell) else (n,k)):=fun z=>by rw [List.lookup_cons,hb]
      rw [List.map_cons] at h
      dsimp only at h
      split at h
      ·rw [e1] at h;exact h
      ·rw [e1] at h;exact h
   exact hcl2 x (key scope.names hcell hx')
  ·exact ⟨below b (fpl b hb),fun x c e=>(f2 b hb).2.2.2.2.1 x c (hcl x c e)⟩
  ·rcases (f2 b hb).2.2.2.1 with z | z
   ·exact i2.noex b o e z
   ·exact absurd (Nat.lt_of_lt_of_le (Heap.lt_size e) (Nat.le_trans i2.bsz z)) (Nat.lt_irrefl _)
  ·rcases List.mem_cons.mp (I2.stkSub b hb2) with z | z
   ·exact (f2 b hb).2.1 z
   ·exact (f2 b hb).2.2.1 z
 have stat:∀ {H':Hp},(∀ b∈fp,H' b=none)->∀ b∈fp,kF (dP X N scope cl P2.objs.size s2 H2 fp) [] H' b:=fun hn b hb =>
  ⟨hn b hb,below b (fpl b hb),fun z=>ok'.exfs b hb z,.inl hb,fun x c e=>(f2 b hb).2.2.2.2.1 x c (hcl x c e),(fun p hp=>by cases hp)⟩
 have hD:H2 s2.heap.objs.size=none:=I2.hok.fresh (Nat.le_refl _)
 have relf:∀ x,scope.names.lookup x=some .free->(X.env.kindOf x=some .cell\/X.env.kindOf x=some .free)->((relabel scope X.env).names.lookup x=some .cell\/(relabel scope X.env).names.lookup x=some .free):=by
  intro x hx hkx
  have key:∀ (names:List (Str × NameKind)),names.lookup x=some .free->((names.map fun (n,k)=>if (k == NameKind.free && X.env.scope.kind == .function && X.env.kindOf n == some .cell) then (n,NameKind.cell) else (n,k)).lookup x=some .cell \/
    (names.map fun (n,k)=>if (k == NameKind.free && X.env.scope.kind == .function && X.env.kindOf n == some .cell) then (n,NameKind.cell) else (n,k)).lookup x=some .free):=by
   intro names
   induction names with
   | nil=>intro h;cases h
   | cons y r ih =>
    obtain ⟨n,kd⟩:=y
    intro h
    rw [List.lookup_cons] at h
    by_cases hxn:x=n
    ·subst hxn
     simp only [beq_self_eq_true] at h
     cases h
     rw [List.map_cons]
     dsimp only
     split
     ·left;simp [List.lookup_cons]
     ·right;simp [List.lookup_cons]
    ·have hb:(x == n)=false:=by simpa using hxn
     rw [hb] at h
     have:=ih h
     rw [List.map_cons]
     dsimp only
     split
     ·rw [List.lookup_cons,hb];exact this
     ·rw [List.lookup_cons,hb];exact this
  exact key scope.names hx
 have Istart:∀ tk,Inv (dP X N scope cl P2.objs.size s2 H2 fp) [] (dR k ix σ) (upd H2 s2.heap.objs.size (.lst [])) { s2 with heap:=h₁,toks:=tk }:=fun tk=>by
  refine ⟨ok',rfl,I2.bare,Un.laid old (Nat.le_refl _) hD,⟨_,hns₁,fun i x v e1 e2 e3=>?_⟩,fun x c e=>?_,?_,fun x c e=>?_,(fun p hp=>by cases hp),I2.hok.laid old (Nat.le_refl _) ⟨Nat.zero_le _,[],_,.nil,hacc⟩,σl⟩
  ·by_cases hik:i < k
   ·exfalso
    unfold dR at e2
    rw [List.getElem?_append_left (by simpa using hik),List.getElem?_replicate] at e2
    split at e2 <;> cases e2
   ·have ej:i=k + (i - k):=by omega
    have e1':N[k + (i - k)]?=some x:=by rw [<- ej];exact e1
    obtain ⟨i0,hi0,hXN⟩:=hN (i - k) x e1'
    have hfx:=hcap (i - k) x e1'
    have hmem:(x,NameKind.free)∈scope.names:=PySem.mem_of_lookup hfx
    have hkx:=hfree _ hmem rfl
    have e4:σ[i0]?=some (some v):=by
     unfold dR at e2
     rw [List.getElem?_append_right (by simpa using Nat.le_of_not_lt hik),List.getElem?_map] at e2
     simp only [List.length_replicate,hi0,Option.map_some,Option.some.injEq] at e2
     cases z:σ[i0]? with
     | none=>rw [z] at e2;cases e2
     | some y=>rw [z] at e2;simp only [Option.getD_some] at e2;rw [e2]
    obtain ⟨m2,hn2,hl2⟩:=I2.loc
    obtain ⟨u,ru,lk⟩:=hl2 i0 x v hXN e4 (by rcases hkx with z | z;exact .inr (.inl z);exact .inr (.inr z))
    rcases lk with ⟨z,_⟩ | ⟨_,c,hc1,hc2⟩
    ·exfalso
     have z':X.env.kindOf x=some .local:=z
     rcases hkx with y | y <;> (rw [z'] at y;cases y)
    ·obtain ⟨c',hc'⟩:=hcl2 x hmem
     have e5:=hcl x c' hc'
     rw [hc1] at e5;cases e5
     obtain ⟨o,ho,hd⟩:=hc2
     exact ⟨u,ru,.inr ⟨relf x hfx hkx,c,hc',o,old _ _ ho,hd⟩⟩
  ·obtain ⟨v,o,ho,hd⟩:=I2.cell x c (hcl x c e)
   exact ⟨v,o,old _ _ ho,hd⟩
  ·show upd H2 s2.heap.objs.size (.lst []) P2.objs.size=none
   rw [bD (show P2.objs.size≠s2.heap.objs.size by rw [hCs];exact Nat.succ_ne_self _)]
   exact I2.hok.fresh (show s2.heap.objs.size<=P2.objs.size by rw [hCs];exact Nat.le_succ _)
  ·have e':=hcl x c e
   obtain ⟨v,o,ho,hd⟩:=I2.cell x c e'
   rw [bD (Nat.ne_of_lt (Heap.lt_size ho))]
   exact I2.freeC x c e'
 have st1:tn 0 h₁:=T.keep 0 _ _ j0 fun b hb o e=>old b o e
 have fr1:∀ b∈fp,upd H2 s2.heap.objs.size (.lst []) b=none:=fun b hb=>by rw [bD (Nat.ne_of_lt (fpl b hb))];exact (f2 b hb).1
 have fin:∀ (H3:Hp) (s4:Shared),Inv (dP X N scope cl P2.objs.size s2 H2 fp) [] (dR k ix σ) H3 s4->∀ h':Heap,Heap.SameBut P2.objs.size s4.heap h'->Inv X pins σ H3 { s4 with heap:=h' }:=fun H3 s4 I4 h' sb=>by
  have kp:∀ b o,b < s2.heap.objs.size->s4.heap.get? b=some o->h'.get? b=some o:=fun b o hb e=>sb.extBut b o (below b hb) e
  have u:Un (lI X.stack) fp H2 H3 s2.heap s4.heap:=I4.base
  refine I2.call' (ch:=fp) (H':=H3) I4.os ⟨fun b o q n hb hx=>kp b o (Heap.lt_size q) (u.keep b o q n hb hx),fun b o q n hb hx=>?_,u.free,fun b o q hx=>?_,u.tups,u.frzs,u.tbls⟩ (fun a o e=>?_) I4.bare fun b hb=>⟨(f2 b hb).2.2.2.1,(f2 b hb).2.1,(f2 b hb).2.2.2.2.1,(f2 b hb).2.2.2.2.2⟩
  ·obtain ⟨sl,e⟩:=u.slot b o q n hb hx
   exact ⟨sl,kp b _ (Heap.lt_size q) e⟩
  ·obtain ⟨o',e⟩:=u.there b o q hx
   exact ⟨o',kp b _ (Heap.lt_size q) e⟩
  ·have nC:H3 P2.objs.size=none:=I4.free
   refine (I4.hok a o e).stay (fun b z hb q=>sb.extBut b z ?_ q) (fun _ q=>q) fun _ _ q=>q
   rcases hb with rfl | hb
   ·exact bJ e nC
   ·exact bJ hb nC
 have loop:∀ tk,codeAny (model X.prog X.w) X.A (.compLoop (.ListComp elt [⟨tg,iter,ifs,0⟩] scope pos) 0 (.ref it) (.ref s2.heap.objs.size) (compEnvC scope cl P2.objs.size X.env))
   (compPost (model X.prog X.w) X.A X.xe use QQ (.ref s2.heap.objs.size) P2.objs.size) { s2 with heap:=h₁,toks:=tk }:=fun tk=>by
  refine FK (fun n s'=>∃ i H',Inv (dP X N scope cl P2.objs.size s2 H2 fp) [] (dR k ix σ) H' s'/\tn i s'.heap/\(∀ b∈fp,H' b=none)/\W i n H') ?_ m0 ⟨0,_,Istart tk,st1,fr1,w0⟩
  rintro n s3 ⟨i,H3,I3,st3,fr3,w3⟩
  rcases turn i n H3 w3 with ⟨stop,q⟩ | ⟨go,step⟩
  ·refine bP (T.done (dP X N scope cl P2.objs.size s2 H2 fp) rfl rfl rfl hc i [] s3 _ H3 (fun _ _=>False) I3 (stat fr3) st3 stop) fun r s4 ⟨hr,I4⟩=>?_
   subst hr
   obtain ⟨m,hn,_⟩:=I4.loc
   refine end_ s2.heap.objs.size P2.objs.size H3 s4 (fin H3 s4 I4 s4.heap (Heap.SameBut.refl ..)) ⟨m,hn⟩ I4.free (Ne.symm (below _ I2.lt)) (Nat.le_trans I2.sz (show s2.heap.objs.size<=P2.objs.size by rw [hCs];exact Nat.le_succ _)) (fun x c e=>?_) (fun p hp=>below _ (Heap.lt_size (I2.pin p hp).1)) (fin H3 s4 I4) q
   obtain ⟨v,o,ho,_⟩:=I2.cell x c e
   exact below _ (Heap.lt_size ho)
  ·refine bP (T.item (dP X N scope cl P2.objs.size s2 H2 fp) rfl rfl rfl hc i [] s3 _ H3 (fun _ _=>False) I3 (stat fr3) st3 go) fun r s4 ⟨u,hr,h4⟩=>?_
   subst hr
   refine bP h4 fun _ s5 ⟨x,H5,I5,r5,y5,st5,fr5⟩=>?_
   have I5':=I5.pinned (stat fr5) (T.obj _ _ st5)
   refine bP (hg cl P2.objs.size s2 H2 fp _ s5 _ H5 x u _ I5' r5 (gk _ _ _ _ (step x H5 y5))) fun _ s6 ⟨σ6,H6,I6,ag,q6⟩=>?_
   have again:∀ {s7:Shared} {H7:Hp} {m':Nat},Inv (dP X N scope cl P2.objs.size s2 H2 fp) ([]++sW fp s5.heap) σ6 H7 s7->m' < n->W (i + 1) m' H7->∃ m,m < n/\∃ i H',Inv (dP X N scope cl P2.objs.size s2 H2 fp) [] (dR k ix σ) H' s7/\tn i s7.heap/\(∀ b∈fp,H' b=none)/\W i m H':=fun {s7 H7 m'} I7 hm w7=>by
    refine ⟨m',hm,i + 1,H7,(I7.unpinned).weak (by rw [σl];exact (I7.len).symm) (fun j v e=>?_),T.keep _ _ _ st5 fun b hb o e=>(I7.pin (b,o) (List.mem_append_right _ (List.mem_append_right _ (m6 hb e)))).1,fun b hb=>?_,w7⟩
    ·by_cases hj:j < k
     ·exfalso
      unfold dR at e
      rw [List.getElem?_append_left (by simpa using hj),List.getElem?_replicate] at e
      split at e <;> cases e
     ·rw [ag j (by omega)];exact e
    ·obtain ⟨o,e,d⟩:=T.obj _ _ st5 b hb
     exact (I7.pin (b,o) (List.mem_append_right _ (List.mem_append_right _ (m6 hb e)))).2.1
   refine bP (hif cl P2.objs.size s2 H2 fp _ s6 σ6 H6 _ I6 q6) fun ok s7 ⟨H7,I7,q7⟩=>?_
   cases ok with
   | false =>
    obtain ⟨m',hm,w7⟩:=q7
    exact again I7 hm w7
   | true =>
    refine bP (he cl P2.objs.size s2 H2 fp _ s7 σ6 H7 _ I7 q7) fun y s8 ⟨yv,H8,I8,r8,ys,hD8,hz8,m',hm,w8⟩=>?_
    refine bP (zH _ s8 σ6 H8 (.ref s2.heap.objs.size) [yv] (.ref s2.heap.objs.size) [y] (fun v H9=>H9=upd H8 s2.heap.objs.size (.lst (ys++[yv]))) I8 rfl (.cons r8 .nil) ⟨_,ys,yv,rfl,rfl,hD8,hz8,rfl⟩) fun _ s9 ⟨_,H9,I9,_,e9⟩=>?_
    subst e9
    exact again I9 hm w8
 exact codeAny_compStart_list (loop _) (T.self _ 0 _ _ _ st1 (loop _))
theorem QJ {X:Cx} {tg elt iter:Expr} {ifs:List Expr} {scope:Scope} {pos:Pos} {N:List Str} {k:Nat} {ix:List Nat} {wi:TI} {g:TG} {tc:TT} {te:TE}
  (hc:X.calm=true) (hi:PI X tg iter wi) (gk:GK k g)
  (hk:scope.kind=.function) (hcell:∀ y∈scope.names,y.2≠.cell) (hnames:∀ y∈scope.names,y.2=.local->scope.names.lookup y.1=some .local)
  (hfree:∀ y∈scope.names,y.2=.free->X.env.kindOf y.1=some .cell\/X.env.kindOf y.1=some .free)
  (hone:∀ y∈scope.names,y.2=.free->scope.names.lookup y.1=some .free)
  (hN:∀ (j:Nat) x,N[k + j]?=some x->∃ i,ix[j]?=some i/\X.N[i]?=some x)
  (hcap:∀ (j:Nat) x,N[k + j]?=some x->scope.names.lookup x=some .free)
  (hlen:N.length=k + ix.length)
  (hg:∀ cl C s H fp,PG (dP X N scope cl C s H fp) tg g)
  (hif:∀ cl C s H fp,Gb (dP X N scope cl C s H fp) ifs tc)
  (he:∀ cl C s H fp,PE (dP X N scope cl C s H fp) elt te)
  (hs:∀ x,foldedSetIterable iter X.env x=pure x:=by intro _;rfl) :
  PE X (.ListComp elt [⟨tg,iter,ifs,0⟩] scope pos) (AL k ix wi g tc te):=by
 intro pins s σ H Q I h
 rw [eval_ListComp]
 refine zW (use:=none) hc hi gk hk hcell hnames hfree hone hN hcap hlen hg hif he hs I h fun D C H3 s4 I4 ⟨m,hn⟩ _ _ _ _ _ fin q=>?_
 exact ⟨m,hn,fun h' sb=>⟨.ref D,H3,fin h' sb,rfl,q⟩⟩
theorem QN {X:Cx} {tg elt iter:Expr} {ifs:List Expr} {scope:Scope} {pos spos py:Pos} {N:List Str} {k:Nat} {ix:List Nat} {wi:TI} {g:TG} {tc:TT} {te:TE} {i:Nat} {y:Str}
  (hc:X.calm=true) (hi:PI X tg iter wi) (gk:GK k g)
  (hk:scope.kind=.function) (hcell:∀ y∈scope.names,y.2≠.cell) (hnames:∀ y∈scope.names,y.2=.local->scope.names.lookup y.1=some .local)
  (hfree:∀ y∈scope.names,y.2=.free->X.env.kindOf y.1=some .cell\/X.env.kindOf y.1=some .free)
  (hone:∀ y∈scope.names,y.2=.free->scope.names.lookup y.1=some .free)
  (hN:∀ (j:Nat) x,N[k + j]?=some x->∃ i,ix[j]?=some i/\X.N[i]?=some x)
  (hcap:∀ (j:Nat) x,N[k + j]?=some x->scope.names.lookup x=some .free)
  (hlen:N.length=k + ix.length)
  (hg:∀ cl C s H fp,PG (dP X N scope cl C s H fp) tg g)
  (hif:∀ cl C s H fp,Gb (dP X N scope cl C s H fp) ifs tc)
  (he:∀ cl C s H fp,PE (dP X N scope cl C s H fp) elt te)
  (hs:∀ x,foldedSetIterable iter X.env x=pure x) (hsw:swapsWith (.ListComp elt [⟨tg,iter,ifs,0⟩] scope pos) (some (.Name y py)) spos.line X.env=pure true)
  (hNd:X.N.Nodup) (hiy:X.N[i]?=some y) (hy:Loc X.env.scope y) (hf:X.fn y=true\/X.env.scope.names.lookup y=some .local) :
  PS X (.Assign [.Name y py] (.ListComp elt [⟨tg,iter,ifs,0⟩] scope pos) spos) (IG (AL k ix wi g tc te) (qW i)):=by
 intro pins s σ H D I h
 rw [exec_Assign_Name_used _ _ _ _ hsw]
 refine wpAny_bind (wpAny_standAt (wpAny_bind ?_))
 show wpAny _ X.A (do let _ <- comprehension (.ListComp elt [⟨tg,iter,ifs,0⟩] scope pos) scope X.env _ (newList []) false (eval iter X.env) (some (assign (.Name y py) X.env))) _ _ s
 refine wpAny_bind (wpAny_mono (zW (use:=some (assign (.Name y py) X.env)) (QQ:=fun _ s'=>SP X pins D .next s') hc hi gk hk hcell hnames hfree hone hN hcap hlen hg hif he hs I h fun A C H3 s4 I4 hn nC nL sC cC pC fin q=>?_) (fun _ s' hq=>wpAny_pure (wpAny_pure hq)) fun _ _ e=>e)
 show wpAny _ X.A (assign (.Name y py) X.env (.ref A)) _ _ _
 refine wpAny_assign_Name (zP (i:=i) (v:=.ref A) I4 hNd hiy hy rfl (fun s5 I5 ⟨a,sb,ha⟩=>?_) hf)
 obtain ⟨m,hn⟩:=hn
 have aC:C≠a:=by
  rcases ha with z | z
  ·rw [z];exact nL
  ·exact fun e=>cC y a z e.symm
 refine ⟨m,hn.at' fun o e=>sb.extBut C o aC e,fun h' sb'=>?_⟩
 exact ⟨_,H3,I5.turned (t':=s5.toks) (fun b o hb e=>sb'.extBut b o hb e) nC nL (.inr sC) cC pC,q⟩
section
variable {X:Cx}
theorem Rf:cV X (binaryOp .Add) (Ha X.K):=by
 intro pins s σ H x y v u Q I rx ry h
 obtain ⟨l,b,xs,zs,rfl,rfl,hH,hB,hz,q⟩:=h
 cases rx
 cases ry
 obtain ⟨its,r,p,hl⟩:=I.list hH
 obtain ⟨its2,r2,p2,hl2⟩:=I.list hB
 obtain ⟨⟨cls,dd,data,sl⟩,n,ho,hc,_,hd⟩:=p
 obtain ⟨⟨cls2,dd2,data2,sl2⟩,n2,ho2,hc2,_,hd2⟩:=p2
 simp only at hc hd hc2 hd2
 subst hc hd hc2 hd2
 have q1:=r.length
 have q2:=r2.length
 have e:its.toArray++its2.toArray=(its++its2).toArray:=by simp
 refine concat_meets ⟨_,ho,rfl⟩ ⟨_,ho2,rfl⟩ noFill_list_add seq_list_add PySem.F.slot_list_add PySem.F.entry_list_add (PySem.F.args_list_add_2 _ _) (list_addW l b its.toArray its2.toArray n n2 dd dd2 sl sl2 (by rw [List.size_toArray,List.size_toArray];omega)) ⟨ho,ho2,?_⟩
 rw [e]
 exact ⟨.ref _,_,I.lnew (t':=s.toks) (r.append r2) (by rw [List.length_append];omega),rfl,q _ I.fresh⟩
theorem O4:cV X (binaryOp .Add) (Bs X.K):=by
 intro pins s σ H x y v u Q I rx ry h
 obtain ⟨a,b,xs,ys,rfl,rfl,ha,hb,hz,q0,q1,q2⟩:=h
 by_cases hx:xs=[]
 ·cases rx
  cases ry
  obtain ⟨its,r1,p1,_⟩:=I.tuple ha
  obtain ⟨its2,r2,p2,_⟩:=I.tuple hb
  obtain ⟨⟨cls,dd,data,sl⟩,ho,hc,n,hd⟩:=p1
  obtain ⟨⟨cls2,dd2,data2,sl2⟩,ho2,hc2,n2,hd2⟩:=p2
  simp only at hc hd hc2 hd2
  subst hc hd hc2 hd2
  have e:its=[]:=r1.nil_iff.mpr hx
  exact concat_meets ⟨_,ho,rfl⟩ ⟨_,ho2,rfl⟩ noFill_tuple_add seq_tuple_add PySem.F.slot_tuple_add PySem.F.entry_tuple_add (PySem.F.args_tuple_add_2 _ _) (tuple_addW0 a b its.toArray its2.toArray n n2 dd dd2 sl sl2 (by rw [e];rfl)) ⟨ho,ho2,.ref b,H,I,rfl,q0 hx⟩
 ·exact Se pins s σ H _ _ v u Q I rx ry ⟨a,b,xs,ys,rfl,rfl,ha,hb,hx,hz,q1 hx,q2 hx⟩
theorem Tc:u3 X (fun x lo hi H Q=>∃ z:Str,x=.str z/\z.length<=sizeLine/\Q (.str (Txt.slice z lo hi)) H):=by
 intro pins s σ H x v vl vu lo hi sl Q I rx hs pl pu h
 obtain ⟨z,rfl,hz,q⟩:=h
 obtain ⟨t,rfl⟩:=rx
 refine ⟨"str",_,F.slot_str_getitem.lookup,typeIs_str _ _ _,?_⟩
 have fin:∀ t' k,EP X pins σ Q (.str (Txt.slice z lo hi) t') { s with toks:=k }:=fun t' k=>⟨.str (Txt.slice z lo hi),H,I.tok k,⟨t',rfl⟩,q⟩
 cases pl with
 | none=>cases pu with
  | none=>exact wpAny_getItem_str_slice (l:=none) (u:=none) (st:=none) hs rfl (post_val_or_str ⟨Nat.le_trans (Txt.slice_le z _ _) hz,fun t' k=>fin t' k⟩)
  | int j uj=>exact wpAny_getItem_str_slice (l:=none) (u:=some (j,uj)) (st:=none) hs rfl (post_val_or_str ⟨Nat.le_trans (Txt.slice_le z _ _) hz,fun t' k=>fin t' k⟩)
 | int i ui=>cases pu with
  | none=>exact wpAny_getItem_str_slice (l:=some (i,ui)) (u:=none) (st:=none) hs rfl (post_val_or_str ⟨Nat.le_trans (Txt.slice_le z _ _) hz,fun t' k=>fin t' k⟩)
  | int j uj=>exact wpAny_getItem_str_slice (l:=some (i,ui)) (u:=some (j,uj)) (st:=none) hs rfl (post_val_or_str ⟨Nat.le_trans (Txt.slice_le z _ _) hz,fun t' k=>fin t' k⟩)
theorem Ux:u3 X (TQ X.K):=Sk.or (SM.or Tc)
theorem Mn (hc:X.calm=true):gW X (.builtin "all") (fun xs H Q=>∃ (p:Addr) (bs:List Bool),xs=[.ref p]/\dM X.K H p (bs.map V.bl)/\Q (.bl (bs.all fun b=>b)) H):=by
 intro pins s σ H xs us Q I r h
 obtain ⟨a,bs,rfl,ha,q⟩:=h
 obtain ⟨u,rfl,ru⟩:=vals1 r
 cases ru
 obtain ⟨its,rv,p,hz⟩:=I.list ha
 have hl:=rv.length
 have hne:a≠s.heap.objs.size:=by
  obtain ⟨o,n,e,_⟩:=p
  exact Nat.ne_of_lt (Heap.lt_size e)
 refine call_all_walk (wpAny_pyIter_list p.isList ?_)
 refine ⟨s.heap.objs.size,_,_,_,_,_,fun i=>(bs[i]?).getD false,rfl,Walks.list (show X.A.in1.handled=none from I.ok.hd hc) s.heap.objs.size a hne its.toArray,⟨⟨_,Heap.get?_push_size _ rfl,rfl,rfl⟩,?_⟩,?_,fun h' tk k=>?_⟩
 ·obtain ⟨o,n,e,c,d,z⟩:=p
  exact ⟨o,Heap.get?_push_of_some _ e,c,n,z⟩
 ·intro i v s' Q' E' hP hQ
  have hv:its[i]?=some v:=by simpa using hP
  have hi:i < bs.length:=by
   have:=(List.getElem?_eq_some_iff.mp hv).1
   rw [<- hl] at this;simpa using this
  obtain ⟨u,hu,ru⟩:=rv.get (i:=i) (x:=.bl bs[i]) (by simp [hi])
  rw [hv] at hu;cases hu
  cases ru
  refine wpAny_truthy_bool ?_
  have:(bs[i]?).getD false=bs[i]:=by simp [hi]
  rw [<- this];exact hQ
 ·have e:(List.range its.toArray.size).all (fun i=>(bs[i]?).getD false)=bs.all fun b=>b:=by
   have:its.toArray.size=bs.length:=by rw [List.size_toArray,<- hl,List.length_map]
   rw [this]
   clear this hl rv p hz k
   rw [Bool.eq_iff_iff]
   simp only [List.all_eq_true,List.mem_range]
   constructor
   ·intro h b hb
    obtain ⟨i,hi,rfl⟩:=List.mem_iff_getElem.mp hb
    have:=h i hi
    simpa [hi] using this
   ·intro h i hi
    have:=h bs[i] (List.getElem_mem hi)
    simpa [hi] using this
  rw [e]
  exact ⟨.bl _,H,I.kept (t':=tk) (fun b o e=>k b o (fun z=>Nat.lt_irrefl _ (Nat.lt_of_lt_of_le (Heap.lt_size e) (Nat.le_of_eq (show s.heap.objs.size=b from (List.mem_singleton.mp z).symm)))) (Heap.get?_push_of_some _ e)),rfl,q⟩
end
end U2
namespace U2
open PySem PySem.Spec PyProof.Rows L2
structure Dat where
 prog:Program
 w:World
 K:PySem.W.Frag
 mg:Str->Option Value
 base:Heap
 N:List Str
 sc:Scope
 k:Nat
 fn:Bool
 cod:Value:=.none
 qual:Str:=""
structure jU (D:Dat) (X:Cx):Prop where
 prog:X.prog=D.prog
 w:X.w=D.w
 K:X.K=D.K
 mg:X.mg=D.mg
 base:X.base=D.base
 N:X.N=D.N
 sc:X.env.scope=D.sc
 room:cS D.k X.A
 calm:X.calm=true
 xe:X.xe=fun _ _=>False
 fn:D.fn=true->∀ x,X.fn x=true
 cod:D.cod≠.none->X.env.code=D.cod/\X.env.qual=D.qual
 dl:D.fn=true->X.ex=[]/\X.stack=X.env :: X.outer/\X.env.frame=some X.env.locals
def bG (D:Dat) (e:Expr) (t':UE):Prop:=∃ t,(∀ X,jU D X->PE X e t)/\b6 D.K t t'
def mZ (D:Dat) (e:Expr) (t':UT):Prop:=∃ t,(∀ X,jU D X->PT X e t)/\i9 D.K t t'
def iJ (D:Dat) (e:Expr) (t':UT):Prop:=∃ t,(∀ X,jU D X->PW X e t)/\i9 D.K t t'
def mM (D:Dat) (es:List Expr) (t':UA):Prop:=∃ t,(∀ X,jU D X->PA X es t)/\kD D.K t t'
def pM (D:Dat) (s:Stmt) (t':US):Prop:=∃ t,(∀ X,jU D X->PS X s t)/\iY D.K t t'
def mV (D:Dat) (s:List Stmt) (t':US):Prop:=∃ t,(∀ X,jU D X->mL X s t)/\iY D.K t t'
def F9 (D:Dat) (k:Nat) (e:Expr) (g':UG):Prop:=∃ g,(∀ X,jU D X->PG X e g)/\vX D.K g g'/\GK k g/\∀ x σ H Q Q',(∀ σ2 H2,Q σ2 H2->Q' σ2 H2)->g x σ H Q->g x σ H Q'
def Kl (D:Dat) (k:Nat) (es:List Expr) (g':wN):Prop:=∃ g,(∀ X,jU D X->LI X es g)/\xE D.K g g'/\Lh k g/\∀ x σ H Q Q',(∀ σ2 H2,Q σ2 H2->Q' σ2 H2)->g x σ H Q->g x σ H Q'
def zJ (D:Dat) (tg e:Expr) (t':UI):Prop:=∃ t,(∀ X,jU D X->PI X tg e t)/\sZ D.K t t'
def Qy (D:Dat) (e:Option Expr) (t':UO):Prop:=∃ t,(∀ X,jU D X->PO X e t)/\A3 D.K t t'
def Ie (D:Dat) (es:List Expr) (t':UT):Prop:=∃ t,(∀ X,jU D X->Gb X es t)/\i9 D.K t t'
section
variable {D:Dat} {a b c e o:Expr} {ta tb tc te:UE} {pos:Pos}
theorem uv (i:Nat) {x:Str} (hN:D.N[i]?=some x:=by rfl) (hv:Gg D.sc x:=by first | exact Or.inl rfl | exact Or.inr (Or.inl rfl) | exact Or.inr (Or.inr rfl)) (hd:(x == ("__debug__":Str))=false:=by decide)
  (hcd:(x == ("__classdict__":Str))=false:=by decide):bG D (.Name x pos) (iX i) :=
 ⟨_,fun X h=>nK (by rw [h.N];exact hN) (by rw [h.sc];exact hv) hd hcd,yM i⟩
theorem aK {i j}:bG D (.Constant (.int i) j pos) (uC (.int i)):=⟨_,fun X h=>SJ,GS⟩
theorem mN {i j}:bG D (.Constant (.bool i) j pos) (uC (.bl i)):=⟨_,fun X h=>VR,SW⟩
theorem bR {i j}:bG D (.Constant (.str i) j pos) (uC (.str i)):=⟨_,fun X h=>SY,GR⟩
theorem nY {j}:bG D (.Constant .none j pos) (uC .non):=⟨_,fun X h=>Uu,RS⟩
theorem wO {x:Str} {i:Int} {t:Tok} (hm:D.mg x=some (.int i t)) (hg:D.sc.names.lookup x=some .globalImplicit:=by rfl) (hd:(x == ("__debug__":Str))=false:=by decide):bG D (.Name x pos) (uC (.int i)) :=
 ⟨_,fun X h=>tQ (v:=.int i) (by show X.env.scope.names.lookup x=_;rw [h.sc];exact hg) (by rw [h.mg];exact hm) ⟨t,rfl⟩ hd,GS⟩
theorem T9 {x:Str} {i:Str} {t:Tok} (hm:D.mg x=some (.str i t)) (hg:D.sc.names.lookup x=some .globalImplicit:=by rfl) (hd:(x == ("__debug__":Str))=false:=by decide):bG D (.Name x pos) (uC (.str i)) :=
 ⟨_,fun X h=>tQ (v:=.str i) (by show X.env.scope.names.lookup x=_;rw [h.sc];exact hg) (by rw [h.mg];exact hm) ⟨t,rfl⟩ hd,GR⟩
theorem tN {x:Str} {f:Addr} (hm:D.mg x=some (.ref f)) (hg:D.sc.names.lookup x=some .globalImplicit:=by rfl) (hd:(x == ("__debug__":Str))=false:=by decide):bG D (.Name x pos) (uC (.ref f)) :=
 ⟨_,fun X h=>tQ (v:=.ref f) (by show X.env.scope.names.lookup x=_;rw [h.sc];exact hg) (by rw [h.mg];exact hm) rfl hd,GV⟩
theorem iC {x:Str} {n:String} (hm:D.mg x=none) (hv:bootBuiltins x=some (.type n):=by kernel_rfl) (hg:D.sc.names.lookup x=some .globalImplicit:=by rfl) (hn:x≠"__name__":=by decide) (hd:(x == ("__debug__":Str))=false:=by decide):bG D (.Name x pos) (uC (.ty n)) :=
 ⟨_,fun X h=>F8 (v:=.ty n) (by show X.env.scope.names.lookup x=_;rw [h.sc];exact hg) (by rw [h.mg];exact hm) hv rfl hn hd,L6⟩
theorem uH {op:Operator} {r:R2} {r':dU} (ho:∀ X,jU D X->cV X (binaryOp op) r) (hr:dO D.K r r') (ha:bG D a ta) (hb:bG D b tb):bG D (.BinOp a op b pos) (fC r' ta tb):=by
 obtain ⟨x,p,s⟩:=ha;obtain ⟨y,q,r⟩:=hb
 exact ⟨_,fun X h=>VD (ho X h) (p X h) (q X h),sX hr s r⟩
theorem lD (ha:bG D a ta) (hb:bG D b tb):bG D (.BinOp a .Sub b pos) (fC (nX fun i j=>.int (i - j)) ta tb):=uH (fun _ _=>Uq) BR ha hb
theorem pG (ha:bG D a ta) (hb:bG D b tb):bG D (.BinOp a .Mod b pos) (fC (uI (fun _ j=>0 < j) fun i j=>.int (i % j)) ta tb):=uH (fun _ _=>SA) oR ha hb
theorem Bi (ha:bG D a ta) (hb:bG D b tb):bG D (.BinOp a .Pow b pos) (fC (uI S9 fun i j=>.int (i ^ j.toNat)) ta tb):=uH (fun _ _=>SH) oR ha hb
def mW (o:Bool):dU:=fun x y M Q=>match x,y with
 | .int i,.int j=>Q (.int (i + j)) M
 | .str i,.str j=>i.length + j.length<=sizeLine/\Q (.str (i++j)) M
 | .tup us,.tup ws=>us.length + ws.length<=sizeLine/\Q (.tup (us++ws)) M
 | x,y=>lZ o x y M Q
def Qt (K:PySem.W.Frag):R2:=fun x y H Q=>r9 (fun i j=>.int (i + j)) x y H Q\/((∃ i j,x=.str i/\y=.str j/\i.length + j.length<=sizeLine/\Q (.str (i++j)) H)\/(Bs K x y H Q\/Ha K x y H Q))
theorem RW {K:PySem.W.Frag} {o:Bool}:dO K (Qt K) (mW o):=fun x y u w H M Q' rm ru rw h Q c=>by
 unfold mW at h
 split at h
 ·exact .inl (BR x y _ _ H M Q' rm ru rw h Q c)
 ·exact .inr (.inl (Od x y _ _ H M Q' rm ru rw h Q c))
 ·exact .inr (.inr (.inl (NL x y _ _ H M Q' rm ru rw h Q c)))
 ·exact .inr (.inr (.inr (OE x y _ _ H M Q' rm ru rw h Q c)))
theorem bV (own:Bool:=false) (ha:bG D a ta) (hb:bG D b tb):bG D (.BinOp a .Add b pos) (fC (mW own) ta tb) :=
 uH (r:=Qt D.K) (fun X h=>by have:=Vc.or (Jc.or ((O4 (X:=X)).or (Rf (X:=X))));rw [h.K] at this;exact this) RW ha hb
theorem yA (ha:bG D a ta):bG D (.UnaryOp .USub a pos) (wJ (fun x M Q=>match x with | .int i=>Q (.int (-i)) M | _=>False) ta):=by
 obtain ⟨x,p,s⟩:=ha
 refine ⟨_,fun X h=>Vw UB (p X h),TN (fun x u H M Q' rm ru h Q c=>?_) s⟩
 cases u with
 | int i=>exact ⟨i,ru.int,c.here rm cP h⟩
 | _=>exact h.elim
theorem Uj {op:CmpOp} {r:R2} {r':dU} (ho:∀ X,jU D X->cV X (compareOp op) r) (hr:dO D.K r r') (ha:bG D a ta) (hb:bG D b tb) (hm:behindInMarks op b=false):bG D (.Compare a [op] [b] pos) (fC r' ta tb):=by
 obtain ⟨x,p,s⟩:=ha;obtain ⟨y,q,r⟩:=hb
 exact ⟨_,fun X h=>QI (ho X h) (p X h) (q X h) hm,sX hr s r⟩
theorem Uk {op:CmpOp} {r:R2} {r':dU} (ho:∀ X,jU D X->cV X (compareOp op) r) (hr:dO D.K r r') (ha:bG D a ta) (hb:bG D b tb) (hm:behindInMarks op b=false):mZ D (.Compare a [op] [b] pos) (lB (fC r' ta tb)):=by
 obtain ⟨x,p,s⟩:=ha;obtain ⟨y,q,r⟩:=hb
 exact ⟨_,fun X h=>Q0 (ho X h) (p X h) (q X h) hm,Ce (sX hr s r)⟩
abbrev CG:dU:=nX fun i j=>.bl (decide (i < j))
abbrev Ae:dU:=nX fun i j=>.bl (decide (i<=j))
abbrev Ac:dU:=nX fun i j=>.bl (decide (j < i))
abbrev zT:dU:=nX fun i j=>.bl (decide (j<=i))
structure lG (D:Dat) (op:CmpOp) (r':dU):Prop where
 ex:∃ r:R2,(∀ X,jU D X->cV X (compareOp op) r)/\dO D.K r r'
theorem vB:lG D .LtE Ae:=⟨⟨_,fun _ _=>VA,oW⟩⟩
theorem Dc:lG D .Gt Ac:=⟨⟨_,fun _ _=>V0,oW⟩⟩
theorem WO:lG D .GtE zT:=⟨⟨_,fun _ _=>VX,oW⟩⟩
theorem Qi:lG D .Is pD:=⟨⟨_,fun _ _=>Tn,Q9⟩⟩
def sV (neg:Bool):dU:=fun x y M Q=>match x,y with
 | .str i,.str j=>Q (.bl (if neg then !(!(Builtin.Str.occurrences j i 0 j.length 1).isEmpty) else !(Builtin.Str.occurrences j i 0 j.length 1).isEmpty)) M
 | _,_=>False
theorem V1:lG D .In (sV false):=⟨⟨_,fun _ _=>Nr,fun x y u w H M Q' rm ru rw h Q c=>by
 cases u with
 | str i=>cases w with
  | str j=>exact ⟨i,j,ru.str,rw.str,c.here rm cL h⟩
  | _=>exact h.elim
 | _=>exact h.elim⟩⟩
theorem y9 {op:CmpOp} {r':dU} (k:lG D op r') (ha:bG D a ta) (hb:bG D b tb) (hm:behindInMarks op b=false:=by first | exact LO _ | with_unfolding_all rfl):bG D (.Compare a [op] [b] pos) (fC r' ta tb) :=
 let ⟨_,h1,h2⟩:=k.ex;Uj h1 h2 ha hb hm
theorem bW {op:CmpOp} {r':dU} (k:lG D op r') (ha:bG D a ta) (hb:bG D b tb) (hm:behindInMarks op b=false:=by first | exact LO _ | with_unfolding_all rfl):mZ D (.Compare a [op] [b] pos) (lB (fC r' ta tb)) :=
 let ⟨_,h1,h2⟩:=k.ex;Uk h1 h2 ha hb hm
theorem VZ {op op':CmpOp} {r r':dU} (k:lG D op r) (k':lG D op' r') (ha:bG D a ta) (hb:bG D b tb) (hc:bG D c tc) (hm:lastMarks [op,op'] [b,c]=false:=by with_unfolding_all rfl) :
  bG D (.Compare a [op,op'] [b,c] pos) (j4 r r' ta tb tc):=by
 obtain ⟨x,p,s⟩:=ha;obtain ⟨y,q,r⟩:=hb;obtain ⟨z,u,v⟩:=hc
 obtain ⟨_,h1,h2⟩:=k.ex
 obtain ⟨_,h3,h4⟩:=k'.ex
 exact ⟨_,fun X h=>N5 (h1 X h) (h3 X h) (p X h) (q X h) (u X h) hm,zX h2 h4 s r v⟩
theorem Qd {op op':CmpOp} {r r':dU} (k:lG D op r) (k':lG D op' r') (ha:bG D a ta) (hb:bG D b tb) (hc:bG D c tc) (hm:lastMarks [op,op'] [b,c]=false:=by with_unfolding_all rfl) :
  mZ D (.Compare a [op,op'] [b,c] pos) (lB (j4 r r' ta tb tc)):=by
 obtain ⟨x,p,s⟩:=ha;obtain ⟨y,q,r⟩:=hb;obtain ⟨z,u,v⟩:=hc
 obtain ⟨_,h1,h2⟩:=k.ex
 obtain ⟨_,h3,h4⟩:=k'.ex
 exact ⟨_,fun X h=>Og (h1 X h) (h3 X h) (p X h) (q X h) (u X h) hm,Ce (zX h2 h4 s r v)⟩
theorem eK (ha:bG D a ta) (he:∀ env whole,isTrue a env whole=(do let v <- whole;standAt a.pos;holding [v] (truthy v)):=by intro _ _;rfl):mZ D a (rL ta):=by
 obtain ⟨x,p,s⟩:=ha
 refine ⟨_,fun X h=>?_,RU s⟩
 have:=O3 (p X h) (he X.env)
 rw [h.K] at this
 exact this
theorem iJ.pt {t:UT} (h:iJ D a t):mZ D a t:=let ⟨_,p,s⟩:=h;⟨_,fun X h=>(p X h).pt,s⟩
variable {rest:List Expr} {tA tB':UT}
theorem lP (ha:mZ D a tA):iJ D (.BoolOp .And [a] pos) tA:=let ⟨_,p,s⟩:=ha;⟨_,fun X h=>Sh (p X h),s⟩
theorem j8 (ha:mZ D a tA):iJ D (.BoolOp .Or [a] pos) tA:=let ⟨_,p,s⟩:=ha;⟨_,fun X h=>TV (p X h),s⟩
theorem nS (ha:mZ D a tA) (hb:iJ D (.BoolOp .And (b :: rest) pos) tB'):iJ D (.BoolOp .And (a :: b :: rest) pos) (rR tA tB'):=let ⟨_,p,s⟩:=ha;let ⟨_,q,r⟩:=hb;⟨_,fun X h=>Vf (p X h) (q X h),Ru s r⟩
theorem jH (ha:mZ D a tA) (hb:iJ D (.BoolOp .Or (b :: rest) pos) tB'):iJ D (.BoolOp .Or (a :: b :: rest) pos) (xK tA tB'):=let ⟨_,p,s⟩:=ha;let ⟨_,q,r⟩:=hb;⟨_,fun X h=>VH (p X h) (q X h),Ts s r⟩
theorem iG (ha:mZ D a tA):mZ D (.UnaryOp .Not a pos) (qX tA):=let ⟨_,p,s⟩:=ha;⟨_,fun X h=>Tw (p X h),Ri s⟩
theorem pK {op} (ha:bG D a ta):bG D (.BoolOp op [a] pos) ta:=let ⟨_,p,s⟩:=ha;⟨_,fun X h=>Tp (p X h),s⟩
theorem nR (ha:bG D a ta) (hb:bG D (.BoolOp .And (b :: rest) pos) tb):bG D (.BoolOp .And (a :: b :: rest) pos) (fD ta tb):=let ⟨_,p,s⟩:=ha;let ⟨_,q,r⟩:=hb;⟨_,fun X h=>Vm (p X h) (q X h),OV s r⟩
theorem MA (ha:bG D a ta):bG D (.UnaryOp .Not a pos) (m8 ta):=let ⟨_,p,s⟩:=ha;⟨_,fun X h=>SD (p X h),Pr s⟩
theorem uD (hc:mZ D c tA) (ha:bG D a ta) (hb:bG D b tb):bG D (.IfExp c a b pos) (xI tA ta tb):=let ⟨_,p,s⟩:=ha;let ⟨_,q,r⟩:=hb;let ⟨_,u,v⟩:=hc;⟨_,fun X h=>Pn (u X h) (p X h) (q X h),Vi v s r⟩
variable {es:List Expr} {tas:UA}
theorem aB:mM D [] mR:=⟨_,fun X h=>xS,GO⟩
theorem aA (ha:bG D e te) (hr:mM D es tas) (hs:∀ env,starEach (e :: es) env=(false,eval e env) :: starEach es env:=by intro _;rfl):mM D (e :: es) (kC te tas):=let ⟨_,p,s⟩:=ha;let ⟨_,q,r⟩:=hr;⟨_,fun X h=>pT (p X h) (q X h) (hs _),B9 s r⟩
theorem aW {x1} (h:mM D es tas):bG D (.Tuple es x1 pos) (oX tas):=let ⟨_,p,s⟩:=h;⟨_,fun X h=>Le (p X h),GD s⟩
theorem dI (own:Bool:=false) (h:mM D es tas):bG D (.List es pos) (o6 own tas):=let ⟨_,p,s⟩:=h;⟨_,fun X h=>MS (p X h),G0 s⟩
theorem aQ (ha:bG D a ta) (hb:bG D b tb) (hs:uG b:=by intro _ _;rfl):bG D (.Subscript a b pos) (fC oQ ta tb):=by
 obtain ⟨x,p,s⟩:=ha;obtain ⟨y,q,r⟩:=hb
 refine ⟨_,fun X h=>?_,sX T8 s r⟩
 have:=Wb (pos:=pos) Vr (p X h) (q X h) hs
 rw [h.K] at this
 exact this
theorem fL:Qy D none jO:=⟨_,fun X h=>RQ,JF⟩
theorem fH (h:bG D e te):Qy D (some e) (m7 te):=let ⟨_,p,s⟩:=h;⟨_,fun X h=>RT (p X h),Pk s⟩
variable {st:Stmt} {sts body body2:List Stmt} {t u:US}
theorem bH:mV D [] b7:=⟨_,fun X h=>QY,Oo⟩
theorem aH (h1:pM D st t) (h2:mV D sts u):mV D (st :: sts) (qP t u):=let ⟨_,p,s⟩:=h1;let ⟨_,q,r⟩:=h2;⟨_,fun X h=>vG (p X h) (q X h),Gp s r⟩
theorem aJ (h1:pM D st t):mV D [st] t:=let ⟨_,p,s⟩:=h1;⟨_,fun X h=>yN (p X h),s⟩
theorem iM (he:bG D e te) (hs:∀ env,swapsWith e none pos.line env=pure false:=by intro _;rfl):pM D (.Expr e pos) (hZ te):=let ⟨_,p,s⟩:=he;⟨_,fun X h=>GW (p X h) (hs _),Oz s⟩
theorem aZ (he:bG D e te):pM D (.Return (some e) pos) (cE te):=let ⟨_,p,s⟩:=he;⟨_,fun X h=>UW (p X h),Sm s⟩
theorem bY {c:Expr} {tc:UT} (hc:mZ D c tc) (ha:mV D body t) (hb:mV D body2 u):pM D (.If c body body2 pos) (vQ tc t u):=let ⟨_,p,s⟩:=ha;let ⟨_,q,r⟩:=hb;let ⟨_,x,y⟩:=hc;⟨_,fun X h=>Vu (x X h) (p X h) (q X h),Ry y s r⟩
theorem CS {c:Expr} {tc:UT} (hc:mZ D c tc) (hb:mV D body t):pM D (.While c body [] pos) (Dl tc t):=by
 obtain ⟨_,p,s⟩:=hb;obtain ⟨_,x,y⟩:=hc
 exact ⟨_,fun X h=>OH (by rw [h.xe];exact PassesOwn.never) (x X h) (p X h),MQ y s⟩
variable {k:Nat} {g:UG} {gs:wN}
theorem bX (i:Nat) {x:Str} (hN:D.N.Nodup) (hi:D.N[i]?=some x:=by rfl) (hx:Loc D.sc x:=by first | exact Or.inl rfl | exact Or.inr rfl) (hik:i < k:=by decide) (hf:D.fn=true\/D.sc.names.lookup x=some .local:=by first | exact .inl rfl | exact .inr rfl):F9 D k (.Name x pos) (hName i) :=
 ⟨_,fun X h=>Sb (i:=i) (by rw [h.N];exact hN) (by rw [h.N];exact hi) (by rw [h.sc];exact hx) (by rcases hf with z | z;exact .inl (h.fn z x);exact .inr (by rw [h.sc];exact z)),mQ i,Rc hik,Ur⟩
theorem tV:Kl D k [] pE:=⟨_,fun X h=>Sw,N0,Ud,Wc⟩
theorem jC (h1:F9 D k e g) (h2:Kl D k es gs) (hs:∀ env,(assignEach (e :: es) env).map (·.2)=assign e env :: (assignEach es env).map (·.2):=by intro _;rfl):Kl D k (e :: es) (mE g gs) :=
 let ⟨_,p,s,x,y⟩:=h1;let ⟨_,q,r,z,w⟩:=h2;⟨_,fun X h=>OI (p X h) (q X h) (hs _),LU s r,QG x z w y,Vb y w⟩
theorem xJ {kk:Nat} {n:Nat} (h:Kl D k es gs) (hn:∀ env,(assignEach es env).length=n:=by intro _;rfl) (hst:∀ env,(assignEach es env).findIdx? (·.1)=none:=by intro _;rfl):F9 D k (.Tuple es kk pos) (lL n gs):=by
 obtain ⟨_,p,s,x,y⟩:=h
 refine ⟨_,fun X h=>?_,OC s,TJ x,Wd y⟩
 have:=TU (pos:=pos) (k:=kk) h.calm (p X h) (hn _) (hst _)
 rw [h.K] at this
 exact this
theorem bF (i:Nat) {x:Str} {pos':Pos} (hN:D.N.Nodup) (he:bG D e te) (hi:D.N[i]?=some x:=by rfl) (hx:Loc D.sc x:=by first | exact Or.inl rfl | exact Or.inr rfl) (hs:∀ env,swapsWith e (some (.Name x pos')) pos.line env=pure false:=by intro _;rfl)
  (hf:D.fn=true\/D.sc.names.lookup x=some .local:=by first | exact .inl rfl | exact .inr rfl):pM D (.Assign [.Name x pos'] e pos) (bQ te (hName i)):=by
 obtain ⟨_,p,s⟩:=he
 exact ⟨_,fun X h=>CK (i:=i) (by rw [h.N];exact hN) (by rw [h.N];exact hi) (by rw [h.sc];exact hx) (p X h) (hs _) (by rcases hf with z | z;exact .inl (h.fn z x);exact .inr (by rw [h.sc];exact z)),uE s (mQ i)⟩
variable {tg iter:Expr} {wi:UI}
theorem fB (h:bG D e te):zJ D tg e (m4 te):=by
 obtain ⟨_,p,s⟩:=h
 refine ⟨_,fun X h=>?_,NP s⟩
 have:=Tf (tg:=tg) (p X h)
 rw [h.K] at this
 exact this
theorem nI {p:Pos} {ta:UA} (hm:D.mg "range"=none) (ha:mM D [a] ta) (hg:D.sc.names.lookup ("range":Str)=some .globalImplicit:=by rfl) (hs:∀ env,starEach [a] env=[(false,eval a env)]:=by intro _;rfl):zJ D tg (.Call (.Name "range" p) [a] [] pos) (nE ta):=by
 obtain ⟨_,q,s⟩:=ha
 exact ⟨_,fun X h=>Mp (by show X.env.scope.names.lookup _=_;rw [h.sc];exact hg) (by rw [h.mg];exact hm) (q X h) (hs _),PQ s⟩
theorem gK (hi:zJ D tg iter wi) (hg:F9 D k tg g) (hb:mV D body t) (hs:∀ env x,foldedSetIterable iter env x=pure x:=by intro _ _;rfl):pM D (.For tg iter body [] pos) (JN wi g t):=by
 obtain ⟨_,p,s⟩:=hi;obtain ⟨_,q,r,_⟩:=hg;obtain ⟨_,x,y⟩:=hb
 exact ⟨_,fun X h=>Uc (by rw [h.xe];exact PassesOwn.never) h.calm (p X h) (q X h) (x X h) (hs _),Rt s r y⟩
end
end U2
namespace U2
open PySem PySem.Spec PyProof.Rows L2
structure Callee (P:Program) (w:World) (K:PySem.W.Frag) (mg:Str->Option Value) (base:Heap) (j:Nat) (x:Str) (sp:dA) (dus:List U):Prop where
 ex:∃ f fd ps dvs ds,dX P w K mg base j6 j f fd ps (gL K sp)/\mg x=some (.ref f)/\PySem.W.keepIn K (.ref f)=true/\Binds K fd ps ds/\Vals dvs ds/\∀ H M,aS K H M dus dvs
abbrev W0 (D:Dat):=Callee D.prog D.w D.K D.mg D.base
section
variable {D:Dat} {a b c e o:Expr} {ta tb tc te:UE} {pos p:Pos} {es:List Expr} {tas:UA} {x:Str}
theorem aV {sp:dA} {dus:List U} {j:Nat} (F:W0 D j x sp dus) (ha:mM D (e :: es) tas) (hj:j<=D.k:=by first | exact Nat.le_refl _ | (dsimp only;omega) | omega | (dsimp only [cJ];omega)) (hg:D.sc.names.lookup x=some .globalImplicit:=by rfl) (hdb:(x == ("__debug__":Str))=false:=by decide)
  (he:∀ env,starEach (e :: es) env=(false,eval e env) :: starEach es env:=by intro _;rfl) (hpl:∀ env,(backTo pos (starEach es env)).any (·.1)=false:=by intro _;rfl):bG D (.Call (.Name x p) (e :: es) [] pos) (nB sp dus tas):=by
 obtain ⟨f,fd,ps,dvs,ds,F,hm,kp,hb,hd,hr⟩:=F.ex
 obtain ⟨_,q,s⟩:=ha
 refine ⟨HN (gL D.K sp) dvs E0 _,fun X h=>?_,OJ hr s⟩
 have F':dX X.prog X.w X.K X.mg X.base j6 j f fd ps (gL D.K sp):=by rw [h.prog,h.w,h.K,h.mg,h.base];exact F
 exact Rk F' (h.room.mono hj) (by show X.env.scope.names.lookup x=_;rw [h.sc];exact hg) (by rw [h.mg];exact hm) (by rw [h.K];exact kp) (by rw [h.K];exact hb) hd Qn (q X h) hdb (he _) (hpl _)
structure wI (D:Dat) (f:Value) (r':List U->aI->UK->Prop):Prop where
 ex:∃ r,(∀ X,jU D X->gW X f r)/\qU D.K r r'
theorem cQ {id:String} {r':List U->aI->UK->Prop} (k:wI D (.builtin id) r') (hm:D.mg x=none) (ha:mM D (e :: es) tas) (hv:bootBuiltins x=some (.builtin id):=by kernel_rfl) (hg:D.sc.names.lookup x=some .globalImplicit:=by rfl) (hn:x≠"__name__":=by decide) (hdb:(x == ("__debug__":Str))=false:=by decide)
  (he:∀ env,starEach (e :: es) env=(false,eval e env) :: starEach es env:=by intro _;rfl) (hpl:∀ env,(backTo pos (starEach es env)).any (·.1)=false:=by intro _;rfl):bG D (.Call (.Name x p) (e :: es) [] pos) (pO r' tas):=by
 obtain ⟨r,h1,h2⟩:=k.ex
 obtain ⟨_,q,s⟩:=ha
 exact ⟨_,fun X h=>Bt (h1 X h) (by show X.env.scope.names.lookup x=_;rw [h.sc];exact hg) (by rw [h.mg];exact hm) hv (q X h) hn hdb (he _) (hpl _),BQ h2 s⟩
theorem WD {T:String} {r':List U->aI->UK->Prop} (k:wI D (.type T) r') (hm:D.mg x=none) (ha:mM D (e :: es) tas) (hv:bootBuiltins x=some (.type T):=by kernel_rfl) (hg:D.sc.names.lookup x=some .globalImplicit:=by rfl) (hn:x≠"__name__":=by decide) (hdb:(x == ("__debug__":Str))=false:=by decide)
  (he:∀ env,starEach (e :: es) env=(false,eval e env) :: starEach es env:=by intro _;rfl) (hpl:∀ env,(backTo pos (starEach es env)).any (·.1)=false:=by intro _;rfl):bG D (.Call (.Name x p) (e :: es) [] pos) (pO r' tas):=by
 obtain ⟨r,h1,h2⟩:=k.ex
 obtain ⟨_,q,s⟩:=ha
 exact ⟨_,fun X h=>Mm (h1 X h) (by show X.env.scope.names.lookup x=_;rw [h.sc];exact hg) (by rw [h.mg];exact hm) hv (q X h) hn hdb (he _) (hpl _),BQ h2 s⟩
theorem hX:wI D (.builtin "len") mU:=⟨⟨_,fun X h=>by have:=OW (X:=X);rw [h.K] at this;exact this,Rz⟩⟩
theorem V7:wI D (.builtin "min") (mH fun i j=>.int (if j < i then j else i)):=⟨⟨_,fun X h=>Lc h.calm,OP⟩⟩
theorem RK:wI D (.type "tuple") j1:=⟨⟨_,fun X h=>by have:=Aq (X:=X);rw [h.K] at this;exact this,Nz⟩⟩
def Vd (K:PySem.W.Frag):List V->Hp->VK->Prop:=fun xs H Q=>∃ x T t b,xs=[x,.ty T]/\(lX K H x (.type t)\/(t="tuple"/\∃ p vs ob,x=.ref p/\H p=some (.frz ob (.tup vs)))\/(t="tuple"/\∃ p vs,x=.ref p/\KT K p vs)\/(t="list"/\∃ p vs,x=.ref p/\KL K p vs)\/(t="dict"/\∃ p ob u,x=.ref p/\H p=some (.frz ob u)/\NO u=true))/\PySem.W.kitOne K (.type t) (.type T)=some b/\Q (.bl b) H
theorem Oy {X:Cx}:gW X (.builtin "isinstance") (Vd X.K):=by
 intro pins s σ H xs us Q I r h
 obtain ⟨x,T,t,b,rfl,ty,e,q⟩:=h
 obtain ⟨u,w',rfl,ru,rw'⟩:=vals2 r
 cases rw'
 rcases ty with ty | ⟨rfl,p,vs,ob,rfl,m⟩ | ⟨rfl,p,vs,rfl,o,its,n,hk,hc,hd,_,_⟩ | ⟨rfl,p,vs,rfl,o,its,n,hk,hc,_,hd,_,_⟩ | ⟨rfl,p,ob,du,rfl,m,dk⟩
 ·exact Mz I ru ty e fun tk=>⟨.bl b,H,I.tok tk,rfl,q⟩
 ·cases ru
  obtain ⟨_,_,_,_,o,h1,h2,_⟩:=(show dB X.prog X.w H s.heap p (.frz ob (.tup vs)) from I.hok p _ m)
  exact PySem.W.kia_one PySem.W.kitx_tuple I.kIn ⟨o,h1,h2⟩ e (fun z=>nomatch z) fun tk=>⟨.bl b,H,I.tok tk,rfl,q⟩
 ·cases ru
  exact PySem.W.kia_one PySem.W.kitx_tuple I.kIn ⟨o,I.kIn _ _ hk,hc⟩ e (fun z=>nomatch z) fun tk=>⟨.bl b,H,I.tok tk,rfl,q⟩
 ·cases ru
  exact PySem.W.kia_one PySem.W.kitx_list I.kIn ⟨o,I.kIn _ _ hk,hc⟩ e (fun z=>nomatch z) fun tk=>⟨.bl b,H,I.tok tk,rfl,q⟩
 ·cases ru
  obtain ⟨hg,ho⟩:=(show dB X.prog X.w H s.heap p (.frz ob du) from I.hok p _ m)
  have hx:∃ o,s.heap.get? p=some o/\o.cls=.type "dict":=by
   cases du with
   | dK kvs=>obtain ⟨_,_,_,_,o,_,_,h1,h2,_⟩:=ho;exact ⟨o,h1,h2.1⟩
   | dT kvs=>obtain ⟨_,_,_,_,o,_,_,h1,h2,_⟩:=ho;exact ⟨o,h1,h2.1⟩
   | _=>cases dk
  exact PySem.W.kia_one PySem.W.kitx_dict I.kIn hx e (fun z=>nomatch z) fun tk=>⟨.bl b,H,I.tok tk,rfl,q⟩
def yC:List (String × String × Bool):=[("NoneType","bool",false),("NoneType","int",false),("NoneType","str",false),("NoneType","tuple",false),("NoneType","list",false),("NoneType","dict",false),("bool","bool",true),("bool","int",true),("bool","str",false),("bool","tuple",false),("bool","list",false),("bool","dict",false),("int","bool",false),("int","int",true),("int","str",false),("int","tuple",false),("int","list",false),("int","dict",false),("str","bool",false),("str","int",false),("str","str",true),("str","tuple",false),("str","list",false),("str","dict",false),("tuple","bool",false),("tuple","int",false),("tuple","str",false),("tuple","tuple",true),("tuple","list",false),("tuple","dict",false),("list","bool",false),("list","int",false),("list","str",false),("list","tuple",false),("list","list",true),("list","dict",false),("dict","bool",false),("dict","int",false),("dict","str",false),("dict","tuple",false),("dict","list",false),("dict","dict",true)]
theorem Ma {K:PySem.W.Frag}:∀ r∈yC,PySem.W.kitOne K (.type r.1) (.type r.2.1)=some r.2.2:=by
 intro r hr
 simp only [yC,List.mem_cons,List.not_mem_nil,or_false] at hr
 rcases hr with rfl | rfl | rfl | rfl | rfl | rfl | rfl | rfl | rfl | rfl | rfl | rfl | rfl | rfl | rfl | rfl | rfl | rfl | rfl | rfl | rfl | rfl | rfl | rfl | rfl | rfl | rfl | rfl | rfl | rfl | rfl | rfl | rfl | rfl | rfl | rfl | rfl | rfl | rfl | rfl | rfl | rfl <;> first | rfl | kernel_rfl
def bK (t T:String):Option Bool:=(yC.find? fun r=>r.1 == t && r.2.1 == T).map (·.2.2)
theorem Mh {K:PySem.W.Frag} {t T:String} {b:Bool} (h:bK t T=some b):PySem.W.kitOne K (.type t) (.type T)=some b:=by
 unfold bK at h
 cases e:yC.find? fun r=>r.1 == t && r.2.1 == T with
 | none=>rw [e] at h;cases h
 | some r =>
  rw [e] at h
  cases h
  have h1:=List.find?_some e
  have h2:=Ma (K:=K) r (List.mem_of_find?_eq_some e)
  simp only [Bool.and_eq_true,beq_iff_eq] at h1
  rw [h1.1,h1.2] at h2
  exact h2
def mD:List U->aI->UK->Prop:=fun us M Q=>match us with
 | [x,.ty T]=>match aE M x with
  | some t=>match bK t T with
   | some b=>Q (.bl b) M
   | none=>False
  | none=>False
 | _=>False
theorem QT {K:PySem.W.Frag}:qU K (Vd K) mD:=fun xs us H M Q' rm rus h Q c=>by
 unfold mD at h
 split at h
 ·rename_i x T
  split at h
  ·rename_i t e
   split at h
   ·rename_i b e2
    obtain ⟨v,z,rfl,a1,a2⟩:=rus.two
    cases a2.ty
    refine ⟨v,T,t,b,rfl,?_,Mh e2,c.here rm cL h⟩
    cases x with
    | non=>cases a1.non;cases e;exact .inl .non
    | bl y=>cases a1.bl;cases e;exact .inl (.bl y)
    | int y=>cases a1.int;cases e;exact .inl (.int y)
    | str y=>cases a1.str;cases e;exact .inl (.str y)
    | ty y=>cases e
    | tup y =>
     cases e
     simp only [aY] at a1
     obtain ⟨a,vs,rfl,m,r⟩:=a1
     exact .inl (.tup m.2)
    | lst y =>
     cases e
     simp only [aY] at a1
     obtain ⟨a,vs,rfl,m,r⟩:=a1
     rcases m with ⟨_,m | ⟨ob,m⟩⟩ | k
     ·exact .inl (.lst m)
     ·exact .inl (.frz m)
     ·exact .inr (.inr (.inr (.inl ⟨rfl,a,vs,rfl,k⟩)))
    | dic ks tk y =>
     cases e
     simp only [aY] at a1
     obtain ⟨a,vs,rfl,m,r,_⟩:=a1
     cases tk with
     | true =>
      obtain ⟨ws,h1 | ⟨ob,h1⟩,_⟩:=r
      ·exact .inl (.dT h1)
      ·exact .inr (.inr (.inr (.inr ⟨rfl,a,ob,_,rfl,h1,rfl⟩)))
     | false =>
      obtain ⟨ws,h1 | ⟨ob,h1⟩,_⟩:=r
      ·exact .inl (.dK h1)
      ·exact .inr (.inr (.inr (.inr ⟨rfl,a,ob,_,rfl,h1,rfl⟩)))
    | ref y =>
     cases a1.ref
     simp only [aE] at e
     split at e
     ·rename_i ws e3
      cases e
      obtain ⟨vs,h1,_⟩:=rm y _ e3
      exact .inl (.lst h1)
     ·rename_i ws e4
      cases e
      obtain ⟨vs,h1,_⟩:=rm y _ e4;exact .inl (.dK h1)
     ·rename_i ws e4
      cases e
      obtain ⟨vs,h1,_⟩:=rm y _ e4;exact .inl (.dT h1)
     ·cases e
   ·exact h.elim
  ·exact h.elim
 ·exact h.elim
theorem hJ:wI D (.builtin "isinstance") mD:=⟨⟨_,fun X h=>by have:=Oy (X:=X);rw [h.K] at this;exact this,QT⟩⟩
def sS:List U->Option (List Bool)
 | []=>some []
 | .bl b :: r=>(sS r).map (b :: ·)
 | _=>none
def qQ:List U->aI->UK->Prop:=fun us M Q=>match us with
 | [x]=>match view M x with
  | .lst ws=>match sS ws with
   | some bs=>Q (.bl (bs.all fun b=>b)) M
   | none=>False
  | _=>False
 | _=>False
theorem A4 {K:PySem.W.Frag} {H:Hp} {M:aI}:∀ {us:List U} {vs:List V} {bs:List Bool},aS K H M us vs->sS us=some bs->vs=bs.map V.bl
 | [],_,_,r,h=>by cases h;exact r.inv_nil
 | u :: us,_,bs,r,h=>by
  obtain ⟨v,vs',rfl,a,b⟩:=r.inv_cons
  cases u with
  | bl y =>
   simp only [sS] at h
   cases e:sS us with
   | none=>rw [e] at h;cases h
   | some cs =>
    rw [e] at h
    cases h
    rw [A4 b e,a.bl];rfl
  | _=>cases h
theorem VL:wI D (.builtin "all") qQ:=⟨⟨_,fun X h=>by have:=Mn (X:=X) h.calm;rw [h.K] at this;exact this,fun xs us H M Q' rm rus h Q c=>by
 unfold qQ at h
 split at h
 ·rename_i x
  obtain ⟨v,rfl,a1⟩:=rus.one
  split at h
  ·rename_i ws e
   split at h
   ·rename_i bs e2
    obtain ⟨b,zvs,rfl,s2,r2⟩:=eB rm a1 e
    rw [A4 r2 e2] at s2
    exact ⟨b,bs,rfl,s2,c.here rm cL h⟩
   ·exact h.elim
  ·exact h.elim
 ·exact h.elim⟩⟩
theorem gM {apos:Pos} (ho:bG D o ta) (ha:mM D [e] tas) (hbase:∀ env,attributeBase o "append" env (eval o env)=eval o env:=by intro _;rfl)
  (hfew:∀ env,((backTo pos (starEach [e] env)).all (fun x=>!x.1) && (backToKw pos (keywordEach [] env)).all (fun x=>x.1.isSome) && decide ([e].length + ([]:List Keyword).length + (if ([]:List Keyword).isEmpty then 0 else 1) < 30))=true:=by intro _;rfl)
  (hline:(apos.endLine == pos.line)=true:=by rfl) (hs:∀ env,starEach [e] env=[(false,eval e env)]:=by intro _;rfl):bG D (.Call (.Attribute o "append" apos) [e] [] pos) (uW iU ta tas):=by
 obtain ⟨_,p,s⟩:=ho;obtain ⟨_,q,r⟩:=ha
 refine ⟨_,fun X h=>?_,Mv Ks s r⟩
 have:=Qv (cpos:=pos) (apos:=apos) PySem.F.plainAttrs_list PySem.F.slot_list_append PySem.F.type_list_append zH (p X h) (q X h) (hbase _) (hfew _) hline (hs _) (by rfl)
 rw [h.K] at this
 exact this
theorem U5 {apos:Pos} (ho:bG D o ta) (hbase:∀ env,attributeBase o "pop" env (eval o env)=eval o env:=by intro _;rfl)
  (hline:(apos.endLine == pos.line)=true:=by rfl):bG D (.Call (.Attribute o "pop" apos) [] [] pos) (rV o8 ta):=by
 obtain ⟨_,p,s⟩:=ho
 refine ⟨_,fun X h=>?_,RX Rq s⟩
 have:=Ta (cpos:=pos) (apos:=apos) PySem.F.plainAttrs_list PySem.F.slot_list_pop PySem.F.type_list_pop U1 (p X h) (hbase _) hline
 rw [h.K] at this
 exact this
def dH (scope sc:Scope):Scope :=
 { scope with names:=scope.names.map fun (n,k)=>if (k == .free && sc.kind == .function && sc.names.lookup n == some .cell) then (n,.cell) else (n,k) }
def cJ (D:Dat) (N:List Str) (scope:Scope):Dat:={ D with N:=N,sc:=dH scope D.sc,fn:=false,cod:=.none }
theorem jU.comp {X:Cx} (h:jU D X) (N:List Str) (scope:Scope) (cl:List (Str × Addr)) (C:Addr) (s:Shared) (H:Hp) (fp:List Addr):jU (cJ D N scope) (dP X N scope cl C s H fp) :=
 ⟨h.prog,h.w,h.K,h.mg,h.base,rfl,by show dH scope X.env.scope=dH scope D.sc;rw [h.sc],h.room,h.calm,rfl,(fun z=>by cases z),(fun z=>absurd rfl z),(fun z=>by cases z)⟩
theorem jQ:Ie D [] (fun _ M Q=>Q true M):=⟨Uy,fun X h=>Sq,fun σ τ H M Q' rs rm q Q c=>c true M H (bE.refl _ _) rm q⟩
theorem Gv {t:UT} (h:mZ D c t):Ie D [c] t:=let ⟨_,p,s⟩:=h;⟨_,fun X h=>Sr (p X h),s⟩
theorem iR (own:Bool) (N:List Str) (k:Nat) (ix:List Nat) {scope:Scope} {tg iter elt:Expr} {ifs:List Expr} {wi:UI} {g:UG} {tcs:UT} (hi:zJ D tg iter wi) (hg:F9 (cJ D N scope) k tg g) (hif:Ie (cJ D N scope) ifs tcs) (he:bG (cJ D N scope) elt te)
  (hk:scope.kind=.function:=by rfl) (hcell:∀ y∈scope.names,y.2≠.cell:=by first | decide +kernel | (dsimp only;decide +kernel) | (dsimp only [cJ,dH];decide +kernel)) (hnames:∀ y∈scope.names,y.2=.local->scope.names.lookup y.1=some .local:=by first | decide +kernel | (dsimp only;decide +kernel) | (dsimp only [cJ,dH];decide +kernel))
  (hfree:∀ y∈scope.names,y.2=.free->D.sc.names.lookup y.1=some .cell\/D.sc.names.lookup y.1=some .free:=by first | decide +kernel | (dsimp only;decide +kernel) | (dsimp only [cJ,dH];decide +kernel)) (hone:∀ y∈scope.names,y.2=.free->scope.names.lookup y.1=some .free:=by first | decide +kernel | (dsimp only;decide +kernel) | (dsimp only [cJ,dH];decide +kernel))
  (hN:ix.map (fun i=>D.N[i]?)=(N.drop k).map some:=by rfl) (hcap:∀ x∈N.drop k,scope.names.lookup x=some .free:=by first | decide +kernel | (dsimp only;decide +kernel) | (dsimp only [cJ,dH];decide +kernel)) (hlen:N.length=k + ix.length:=by rfl)
  (hs:∀ env x,foldedSetIterable iter env x=pure x:=by intro _ _;rfl):bG D (.ListComp elt [⟨tg,iter,ifs,0⟩] scope pos) (uN own k ix wi g tcs te):=by
 obtain ⟨_,p1,s1⟩:=hi;obtain ⟨_,p2,s2,gk,_⟩:=hg;obtain ⟨_,p3,s3⟩:=hif;obtain ⟨_,p4,s4⟩:=he
 have hN':∀ (j:Nat) x,N[k + j]?=some x->∃ i,ix[j]?=some i/\D.N[i]?=some x:=fun j x e=>by
  have e1:((N.drop k).map some)[j]?=some (some x):=by rw [List.getElem?_map,List.getElem?_drop,e];rfl
  rw [<- hN,List.getElem?_map] at e1
  cases q:ix[j]? with
  | none=>rw [q] at e1;cases e1
  | some i=>rw [q] at e1;exact ⟨i,rfl,Option.some.inj e1⟩
 have hcap':∀ (j:Nat) x,N[k + j]?=some x->scope.names.lookup x=some .free:=fun j x e=>hcap x (List.mem_of_getElem? (i:=j) (by rw [List.getElem?_drop];exact e))
 refine ⟨_,fun X h=>QJ (N:=N) (k:=k) (ix:=ix) h.calm (p1 X h) gk hk hcell hnames (fun y hy e=>by show X.env.scope.names.lookup y.1=_\/X.env.scope.names.lookup y.1=_;rw [h.sc];exact hfree y hy e) hone (fun j x e=>by rw [h.N];exact hN' j x e) hcap' hlen
  (fun cl C s H fp=>p2 _ (h.comp N scope cl C s H fp)) (fun cl C s H fp=>p3 _ (h.comp N scope cl C s H fp)) (fun cl C s H fp=>p4 _ (h.comp N scope cl C s H fp)) (hs _),BG s1 s2 s3 s4⟩
theorem N8 {elt:Expr} {gens:List Comprehension} {scope:Scope} {pos py:Pos} {y:Str} {line:Nat} {env:Env} (h1:env.scope.kind=.function) (h2:env.scope.names.lookup y=some .local) (h3:(py.line == pos.line && !(scope.names.any fun (n,k)=>n == y && (k == .local || k == .cell)))=true) :
  swapsWith (.ListComp elt gens scope pos) (some (.Name y py)) line env=pure true:=by
 have e1:(env.blockKind == .function)=true:=by first | (unfold Env.blockKind;rw [h1];rfl) | (unfold Env.blockKind;simp [h1])
 have e2:(env.kindOf y == some .local)=true:=by unfold Env.kindOf;rw [h2];rfl
 show pure (env.blockKind == .function && env.kindOf y == some .local && py.line == pos.line && !(scope.names.any fun (n,k)=>n == y && (k == .local || k == .cell)))=pure true
 rw [e1,e2]
 simp only [Bool.and_eq_true] at h3
 rw [h3.1,h3.2]
 rfl
theorem Sn (i:Nat) {y:Str} {spos py:Pos} (hNd:D.N.Nodup) (own:Bool) (N:List Str) (k:Nat) (ix:List Nat) {scope:Scope} {tg iter elt:Expr} {ifs:List Expr} {wi:UI} {g:UG} {tcs:UT} (hi:zJ D tg iter wi) (hg:F9 (cJ D N scope) k tg g) (hif:Ie (cJ D N scope) ifs tcs) (he:bG (cJ D N scope) elt te)
  (hk:scope.kind=.function:=by rfl) (hcell:∀ y∈scope.names,y.2≠.cell:=by first | decide +kernel | (dsimp only;decide +kernel) | (dsimp only [cJ,dH];decide +kernel)) (hnames:∀ y∈scope.names,y.2=.local->scope.names.lookup y.1=some .local:=by first | decide +kernel | (dsimp only;decide +kernel) | (dsimp only [cJ,dH];decide +kernel))
  (hfree:∀ y∈scope.names,y.2=.free->D.sc.names.lookup y.1=some .cell\/D.sc.names.lookup y.1=some .free:=by first | decide +kernel | (dsimp only;decide +kernel) | (dsimp only [cJ,dH];decide +kernel)) (hone:∀ y∈scope.names,y.2=.free->scope.names.lookup y.1=some .free:=by first | decide +kernel | (dsimp only;decide +kernel) | (dsimp only [cJ,dH];decide +kernel))
  (hN:ix.map (fun i=>D.N[i]?)=(N.drop k).map some:=by rfl) (hcap:∀ x∈N.drop k,scope.names.lookup x=some .free:=by first | decide +kernel | (dsimp only;decide +kernel) | (dsimp only [cJ,dH];decide +kernel)) (hlen:N.length=k + ix.length:=by rfl)
  (hs:∀ env x,foldedSetIterable iter env x=pure x:=by intro _ _;rfl) (hl1:D.sc.kind=.function:=by rfl) (hl2:D.sc.names.lookup y=some .local:=by rfl) (hl3:(py.line == pos.line && !(scope.names.any fun (n,k)=>n == y && (k == .local || k == .cell)))=true:=by decide +kernel)
  (hiy:D.N[i]?=some y:=by rfl) (hy:Loc D.sc y:=by first | exact Or.inl rfl | exact Or.inr rfl) (hf:D.fn=true\/D.sc.names.lookup y=some .local:=by first | exact .inl rfl | exact .inr rfl):pM D (.Assign [.Name y py] (.ListComp elt [⟨tg,iter,ifs,0⟩] scope pos) spos) (bQ (uN own k ix wi g tcs te) (hName i)):=by
 obtain ⟨_,p1,s1⟩:=hi;obtain ⟨_,p2,s2,gk,_⟩:=hg;obtain ⟨_,p3,s3⟩:=hif;obtain ⟨_,p4,s4⟩:=he
 have hN':∀ (j:Nat) x,N[k + j]?=some x->∃ i,ix[j]?=some i/\D.N[i]?=some x:=fun j x e=>by
  have e1:((N.drop k).map some)[j]?=some (some x):=by rw [List.getElem?_map,List.getElem?_drop,e];rfl
  rw [<- hN,List.getElem?_map] at e1
  cases q:ix[j]? with
  | none=>rw [q] at e1;cases e1
  | some i=>rw [q] at e1;exact ⟨i,rfl,Option.some.inj e1⟩
 have hcap':∀ (j:Nat) x,N[k + j]?=some x->scope.names.lookup x=some .free:=fun j x e=>hcap x (List.mem_of_getElem? (i:=j) (by rw [List.getElem?_drop];exact e))
 refine ⟨_,fun X h=>QN (i:=i) (N:=N) (k:=k) (ix:=ix) h.calm (p1 X h) gk hk hcell hnames (fun y hy e=>by show X.env.scope.names.lookup y.1=_\/X.env.scope.names.lookup y.1=_;rw [h.sc];exact hfree y hy e) hone (fun j x e=>by rw [h.N];exact hN' j x e) hcap' hlen
  (fun cl C s H fp=>p2 _ (h.comp N scope cl C s H fp)) (fun cl C s H fp=>p3 _ (h.comp N scope cl C s H fp)) (fun cl C s H fp=>p4 _ (h.comp N scope cl C s H fp)) (hs _) (N8 (by rw [h.sc];exact hl1) (by rw [h.sc];exact hl2) hl3) (by rw [h.N];exact hNd) (by rw [h.N];exact hiy) (by rw [h.sc];exact hy) (by rcases hf with z | z;exact .inl (h.fn z y);exact .inr (by rw [h.sc];exact z)),uE (BG s1 s2 s3 s4) (mQ i)⟩
end
section
variable {P:Program} {w:World} {K:PySem.W.Frag} {mg:Str->Option Value} {base:Heap}
theorem tG {H:Hp} {M:aI} {N:List Str} {us:List U} {vs:List V} (r:aS K H M us vs):cZ K H M (L2.start N vs) (eL N us):=by
 have hl:=r.length
 refine ⟨by simp [L2.start,eL,hl],fun i u e=>?_⟩
 unfold eL at e
 unfold L2.start
 by_cases hi:i < us.length
 ·rw [List.getElem?_append_left (by simpa using hi),List.getElem?_map] at e
  cases q:us[i]? with
  | none=>rw [q] at e;cases e
  | some u' =>
   rw [q] at e
   cases e
   obtain ⟨v,h1,h2⟩:=r.get q
   exact ⟨v,by rw [List.getElem?_append_left (by rw [List.length_map];omega),List.getElem?_map,h1];rfl,h2⟩
 ·rw [List.getElem?_append_right (by simpa using hi),List.getElem?_replicate] at e
  split at e <;> cases e
theorem Gs {x:Str} {st:Stmt} {f:Addr} {fd:FuncData} {N ps:List Str} {k:Nat} {sp:dA} {t:US} (F:b9 K x x st f fd) (S:bB N ps (aF st))
  (len:∀ us M Q,sp us M Q->us.length=ps.length)
  (h:mV ⟨P,w,K,mg,base,N,aF st,k,true,.none,""⟩ (bA st) t)
  (q:∀ us M Q,sp us M Q->t { nx:=fun _ M'=>jD Q .non M',rt:=jD Q } (eL N us) M):dX P w K mg base j6 (k + 1) f fd ps (gL K sp):=by
 obtain ⟨t0,h1,h2⟩:=h
 refine F.ok S (fun vs H Q E ⟨us,M,Q',_,r,hs,_⟩=>by rw [<- r.length];exact len us M Q' hs) (fun cdv A outer s H vs Q E hr ⟨us,M,Q',rm,r,hs,c⟩=>?_)
 refine ⟨t0,h1 _ ⟨rfl,rfl,rfl,rfl,rfl,rfl,rfl,hr,rfl,rfl,fun _ _=>rfl,fun h=>absurd rfl h,fun _=>⟨rfl,rfl,rfl⟩⟩,?_⟩
 refine h2 _ (eL N us) H M _ (tG r) rm (q us M Q' hs) _ ⟨fun σ τ H1 M1 s1 rm1 rs1 q1=>?_,fun u v H1 M1 s1 rm1 ru q1=>jD.ok c s1 rm1 ru q1,fun _ _ _ _ _ _ _ z=>z.elim,fun _ _ _ _ _ _ _ z=>z.elim⟩
 exact jD.ok c s1 rm1 kE q1
theorem Nl {x:Str} {st:Stmt} {f:Addr} {fd:FuncData} {N ps:List Str} {k:Nat} {sp:dA} {t:US} (F:b9 K x x st f fd) (hm:mg x=some (.ref f)) (S:bB N ps (aF st))
  (bind:∀ (kV doc pm:Value) (an:Option Addr) (cdv ct:Value) (us:List Value),us.length=ps.length->bindArgs (PySem.W.fnOf x x (bC st) (bA st) (aF st) .none kV doc pm an cdv ct) ⟨us,[]⟩=pure (ps.zip us))
  (len:∀ us M Q,sp us M Q->us.length=ps.length)
  (h:mV ⟨P,w,K,mg,base,N,aF st,k,true,.none,""⟩ (bA st) t)
  (q:∀ us M Q,sp us M Q->t { nx:=fun _ M'=>jD Q .non M',rt:=jD Q } (eL N us) M):Callee P w K mg base (k + 1) x sp []:=by
 obtain ⟨t0,h1,h2⟩:=h
 refine ⟨f,fd,ps,[],[],F.ok S (fun vs H Q E ⟨us,M,Q',_,r,hs,_⟩=>by rw [<- r.length];exact len us M Q' hs) (fun cdv A outer s H vs Q E hr ⟨us,M,Q',rm,r,hs,c⟩=>?_),hm,F.kp,F.binds bind,.nil,fun H M=>.nil⟩
 refine ⟨t0,h1 _ ⟨rfl,rfl,rfl,rfl,rfl,rfl,rfl,hr,rfl,rfl,fun _ _=>rfl,fun h=>absurd rfl h,fun _=>⟨rfl,rfl,rfl⟩⟩,?_⟩
 refine h2 _ (eL N us) H M _ (tG r) rm (q us M Q' hs) _ ⟨fun σ τ H1 M1 s1 rm1 rs1 q1=>?_,fun u v H1 M1 s1 rm1 ru q1=>jD.ok c s1 rm1 ru q1,fun _ _ _ _ _ _ _ z=>z.elim,fun _ _ _ _ _ _ _ z=>z.elim⟩
 exact jD.ok c s1 rm1 kE q1
end
end U2
namespace U2
open PySem L2
theorem cX:bK "NoneType" "bool"=some false:=by decide +kernel
theorem dG:bK "NoneType" "int"=some false:=by decide +kernel
theorem dF:bK "NoneType" "str"=some false:=by decide +kernel
theorem cR:bK "NoneType" "tuple"=some false:=by decide +kernel
theorem cY:bK "NoneType" "list"=some false:=by decide +kernel
theorem cW:bK "NoneType" "dict"=some false:=by decide +kernel
theorem eP:bK "bool" "bool"=some true:=by decide +kernel
theorem fP:bK "bool" "int"=some true:=by decide +kernel
theorem fM:bK "bool" "str"=some false:=by decide +kernel
theorem dZ:bK "bool" "tuple"=some false:=by decide +kernel
theorem eS:bK "bool" "list"=some false:=by decide +kernel
theorem eV:bK "bool" "dict"=some false:=by decide +kernel
theorem fY:bK "int" "bool"=some false:=by decide +kernel
theorem gP:bK "int" "int"=some true:=by decide +kernel
theorem gQ:bK "int" "str"=some false:=by decide +kernel
theorem eU:bK "int" "tuple"=some false:=by decide +kernel
theorem fR:bK "int" "list"=some false:=by decide +kernel
theorem fS:bK "int" "dict"=some false:=by decide +kernel
theorem fV:bK "str" "bool"=some false:=by decide +kernel
theorem gR:bK "str" "int"=some false:=by decide +kernel
theorem gO:bK "str" "str"=some true:=by decide +kernel
theorem e7:bK "str" "tuple"=some false:=by decide +kernel
theorem fQ:bK "str" "list"=some false:=by decide +kernel
theorem fT:bK "str" "dict"=some false:=by decide +kernel
theorem d7:bK "tuple" "bool"=some false:=by decide +kernel
theorem eT:bK "tuple" "int"=some false:=by decide +kernel
theorem eR:bK "tuple" "str"=some false:=by decide +kernel
theorem dQ:bK "tuple" "tuple"=some true:=by decide +kernel
theorem eD:bK "tuple" "list"=some false:=by decide +kernel
theorem d8:bK "tuple" "dict"=some false:=by decide +kernel
theorem e8:bK "list" "bool"=some false:=by decide +kernel
theorem fX:bK "list" "int"=some false:=by decide +kernel
theorem fW:bK "list" "str"=some false:=by decide +kernel
theorem dY:bK "list" "tuple"=some false:=by decide +kernel
theorem eW:bK "list" "list"=some true:=by decide +kernel
theorem eZ:bK "list" "dict"=some false:=by decide +kernel
theorem eX:bK "dict" "bool"=some false:=by decide +kernel
theorem fU:bK "dict" "int"=some false:=by decide +kernel
theorem fN:bK "dict" "str"=some false:=by decide +kernel
theorem d9:bK "dict" "tuple"=some false:=by decide +kernel
theorem eQ:bK "dict" "list"=some false:=by decide +kernel
theorem eY:bK "dict" "dict"=some true:=by decide +kernel
theorem aO {Q:UK} {u:U} {M:aI} (q:Q u M):jD Q u M:=⟨u,M,Sub.refl M,.inl rfl,q⟩
theorem Jz {o:Bool} {k:Nat} {ix:List Nat} {wi:UI} {g:UG} {tc:UT} {te:UE} {τ:SU} {M M1:aI} {Q:UK} {S:Src} (f:U->Option U) (hw:∀ R:Src->aI->Prop,R S M1->wi τ M R) (hz:S.xs.length<=sizeLine) (hs:S.ok M1)
  (h:∀ x∈S.xs,∀ M,Sub M1 M->∀ R:Option U->aI->Prop,R (f x) M->g x (dR k ix τ) M fun τ2 M2=>tc τ2 M2 fun ok M3=>if ok=true then te τ2 M3 fun y M4=>R (some y) M4 else R none M3)
  (q:kB o (S.xs.filterMap f) M1 Q):uN o k ix wi g tc te τ M Q:=hw _ (Lo (wi:=wi) f hz hs h q)
theorem gY {wi:UI} {g:UG} {tb:US} {D:kT} {τ:SU} {M M1:aI} {S:Src} (hw:∀ R:Src->aI->Prop,R S M1->wi τ M R) (P:Nat->SU->aI->Prop) (h0:P 0 τ M1) (hok:∀ i τ M,P i τ M->S.ok M)
  (turn:∀ i x τ M,S.xs[i]?=some x->P i τ M->g x τ M fun τ2 M2=>tb { D with nx:=P (i + 1),ct:=P (i + 1),bk:=D.nx } τ2 M2) (fin:∀ τ M,P S.xs.length τ M->D.nx τ M):JN wi g tb D τ M:=hw _ ⟨P,h0,hok,turn,fin⟩
theorem Di {c:UT} {tb:US} {D:kT} {τ:SU} {M:aI} (P:SU->aI->Prop) (μ:SU->aI->Nat) (h0:P τ M)
  (turn:∀ τ M,P τ M->c τ M fun b M1=>if b=true then tb { D with nx:=fun τ' M'=>P τ' M'/\μ τ' M' < μ τ M,ct:=fun τ' M'=>P τ' M'/\μ τ' M' < μ τ M,bk:=D.nx } τ M1 else D.nx τ M1):Dl c tb D τ M:=⟨P,μ,h0,turn⟩
theorem wU {lo:Int} {n i:Nat} {x:U} (h:(cA lo n)[i]?=some x):x=.int (lo + i)/\i < n:=by
 have hi:i < n:=by
  have:=(List.getElem?_eq_some_iff.mp h).1
  simpa [cA] using this
 simp only [cA,List.getElem?_map,List.getElem?_range hi,Option.map_some] at h
 exact ⟨(Option.some.inj h).symm,hi⟩
theorem iA (lo:Int) (n:Nat):(cA lo n).length=n:=by simp [cA]
end U2
namespace U2
open PySem PySem.Spec PyProof.Rows L2
inductive Fl where
 | int (i:Int) | str (x:Str)
def Fl.d:Fl->PyData
 | .int i=>.int i
 | .str x=>.str x
def Fl.u:Fl->U
 | .int i=>.int i
 | .str x=>.str x
def Fl.v:Fl->V
 | .int i=>.int i
 | .str x=>.str x
def Oe (T:List (Str × Fl)):List (PyData × PyData):=T.map fun p=>(PyData.str p.1,p.2.d)
def dC:List (Str × Fl)->Str->Option Fl
 | [],_=>none
 | (a,b) :: r,z=>if a=z then some b else dC r z
structure rJ (P:Program) (w:World) (K:PySem.W.Frag) (d:Addr) (T:List (Str × Fl)):Prop where
 at_:∀ h:Heap,K.In h->StrTab P w h d (Oe T)
theorem Vz (a b:Str):same (.str a) (.str b)=decide (a=b):=by
 by_cases h:a=b <;> simp [same,h]
theorem lookup_tab:∀ (T:List (Str × Fl)) (z:Str),PySem.Spec.lookup (.str z) (Oe T)=(dC T z).map Fl.d
 | [],_=>rfl
 | (a,b) :: r,z=>by
  have ih:=lookup_tab r z
  show (if same (.str a) (.str z)=true then some b.d else PySem.Spec.lookup (.str z) (Oe r))=((if a=z then some b else dC r z).map Fl.d)
  rw [Vz]
  by_cases e:a=z
  ·rw [if_pos (decide_eq_true e),if_pos e];rfl
  ·rw [if_neg (by simpa using e),if_neg e,ih]
def yQ (T:List (Str × Fl)):List (Str × PyData):=T.map fun p=>(p.1,p.2.d)
theorem tab_of {P:Program} {w:World} {K:PySem.W.Frag} {d:Addr} {T:List (Str × Fl)} (n:((yQ T).map (·.1)).Nodup) (e:KTD.tabLook KTD.flatLooks (fun b=>K.lookup b) d (yQ T)=true) (q:KTD.hashesOf (fun b=>K.lookup b) d=(yQ T).map fun p=>(PySem.strKind P w).hash p.1):rJ P w K d T:=⟨fun h hK=>by
 have:=PySem.W.kt_tab_in P w hK e n q
 unfold yQ at this
 rw [List.map_map] at this
 exact this⟩
section
variable {X:Cx} {d:Addr} {T:List (Str × Fl)}
theorem Pm (t:rJ X.prog X.w X.K d T):cV X (compareOp .In) (fun x y H Q=>∃ z,x=.str z/\y=.ref d/\Q (.bl (dC T z).isSome) H):=by
 intro pins s σ H x y v u Q I rx ry h
 obtain ⟨z,rfl,rfl,q⟩:=h
 obtain ⟨tk,rfl⟩:=rx
 cases ry
 refine in_strTab (t.at_ _ I.kIn) ?_
 rw [lookup_tab,Option.isSome_map]
 exact ⟨.bl _,H,I.tok _,rfl,q⟩
theorem Sx {f:Fl} {v:Value} (h:PyProof.V.Flat v f.d):RelV f.v v:=by
 have:=h default
 cases f with
 | int i=>cases this;exact ⟨_,rfl⟩
 | str i=>cases this;exact ⟨_,rfl⟩
theorem UJ {x:Str} {px pos:Pos} {b:Expr} {ta tb:TE} (t:rJ X.prog X.w X.K d T) (ha:PE X (.Name x px) ta) (hb:PE X b tb) (hs:uG b) :
  PE X (.Subscript (.Name x px) b pos) (GG (fun x y H Q=>∃ z f,x=.ref d/\y=.str z/\dC T z=some f/\Q f.v H) ta tb):=by
 intro pins s σ H Q I h
 refine Subscript_ (Kd ha hb I h fun v u s2 x' y H2 I2 rx ry q=>?_)
 obtain ⟨z,f,rfl,rfl,e,q⟩:=q
 cases rx
 obtain ⟨tk,rfl⟩:=ry
 exact item_strTab (t.at_ _ I2.kIn) (dv:=f.d) (by rw [lookup_tab,e];rfl) (fun v hv=>⟨f.v,H2,I2.tok _,Sx hv,q⟩) (hs _ _) (fun r=>rfl)
end
section
variable {D:Dat} {d:Addr} {T:List (Str × Fl)}
abbrev Tab (D:Dat):=rJ D.prog D.w D.K
def gD (d:Addr) (T:List (Str × Fl)) (neg:Bool):dU:=fun x y M Q=>match x with
 | .str z=>y=.ref d/\Q (.bl (if neg then !(dC T z).isSome else (dC T z).isSome)) M
 | _=>False
theorem Gq (t:Tab D d T):lG D .In (gD d T false):=⟨⟨_,fun X h=>Pm (by rw [h.prog,h.w,h.K];exact t),fun x y u w H M Q' rm ru rw h Q c=>by
 cases u with
 | str z=>obtain ⟨rfl,h⟩:=h;exact ⟨z,ru.str,rw.ref,c.here rm cL h⟩
 | _=>exact h.elim⟩⟩
def gC (d:Addr) (T:List (Str × Fl)):dU:=fun x y M Q=>match y with
 | .str z=>x=.ref d/\match dC T z with
  | some f=>Q f.u M
  | none=>False
 | _=>False
theorem TL {K:PySem.W.Frag} {H:Hp} {M:aI} (f:Fl):aY K H M f.u f.v:=by cases f;exact cP;exact iD
theorem UZ {x:Str} {px pos:Pos} {b:Expr} {ta tb:UE} (t:Tab D d T) (ha:bG D (.Name x px) ta) (hb:bG D b tb) (hs:uG b:=by intro _ _;rfl):bG D (.Subscript (.Name x px) b pos) (fC (gC d T) ta tb):=by
 obtain ⟨_,p,s⟩:=ha;obtain ⟨_,q,r⟩:=hb
 refine ⟨_,fun X h=>UJ (d:=d) (T:=T) (by rw [h.prog,h.w,h.K];exact t) (p X h) (q X h) hs,sX (fun x y u w H M Q' rm ru rw h Q c=>?_) s r⟩
 cases w with
 | str z =>
  obtain ⟨rfl,h⟩:=h
  cases e:dC T z with
  | none=>rw [e] at h;exact h.elim
  | some f=>rw [e] at h;exact ⟨z,f,ru.ref,rw.str,e,c.here rm (TL f) h⟩
 | _=>exact h.elim
def KD (i:Nat) (f:Addr) (sp:Sp) (t:TA):TE:=fun σ H Q=>vM i σ H fun v H1=>v=.ref f/\t σ H1 fun vs H2=>sp vs H2 Q E0
theorem Pp {X:Cx} {x:Str} {p pos:Pos} {e:Expr} {es:List Expr} {i k:Nat} {f:Addr} {fd:FuncData} {ps:List Str} {sp:Sp} {t:TA} (hN:X.N[i]?=some x) (hv:Gg X.env.scope x) (F:dX X.prog X.w X.K X.mg X.base j6 k f fd ps sp) (hr:cS k X.A) (hk:PySem.W.keepIn X.K (.ref f)=true) (hb:Binds X.K fd ps [])
  (ha:PA X (e :: es) t) (hd:(x == ("__debug__":Str))=false) (hcd:(x == ("__classdict__":Str))=false) (he:starEach (e :: es) X.env=(false,eval e X.env) :: starEach es X.env) (hpl:(backTo pos (starEach es X.env)).any (·.1)=false) :
  PE X (.Call (.Name x p) (e :: es) [] pos) (KD i f sp t):=by
 intro pins s σ H Q I h
 refine wpAny_Call_Name_kw (bP (nK (i:=i) hN hv hd hcd pins s σ H _ I h) fun v s1 ⟨x',H1,I1,r1,e1,q1⟩=>?_)
 subst e1
 cases r1
 refine PySem.W.callWith_K (h₀:=X.base) I1.ok.mod.kin hk (bP (ha pos pins s1 σ H1 _ I1 q1) fun us s2 ⟨vs,H2,I2,r,q⟩=>⟨I2.kIn,?_⟩) he hpl
 exact LX (dvs:=[]) F hr hb .nil Qn I2 r (by rw [List.append_nil];exact q)
structure vN (P:Program) (w:World) (K:PySem.W.Frag) (mg:Str->Option Value) (base:Heap) (j:Nat) (f:Addr) (sp:dA):Prop where
 ex:∃ fd ps,dX P w K mg base j6 j f fd ps (gL K sp)/\PySem.W.keepIn K (.ref f)=true/\Binds K fd ps []
def mO (i:Nat) (f:Addr) (sp:dA) (t:UA):UE:=fun τ M Q=>iX i τ M fun v M1=>v=.ref f/\t τ M1 fun us M2=>sp us M2 Q
theorem NK (i:Nat) {x:Str} {p pos:Pos} {e:Expr} {es:List Expr} {j:Nat} {f:Addr} {sp:dA} {tas:UA} (F:vN D.prog D.w D.K D.mg D.base j f sp) (ha:mM D (e :: es) tas) (hN:D.N[i]?=some x:=by rfl) (hv:Gg D.sc x:=by first | exact Or.inl rfl | exact Or.inr (Or.inl rfl) | exact Or.inr (Or.inr rfl))
  (hj:j<=D.k:=by first | exact Nat.le_refl _ | (dsimp only;omega) | omega | (dsimp only [cJ];omega)) (hd:(x == ("__debug__":Str))=false:=by decide) (hcd:(x == ("__classdict__":Str))=false:=by decide)
  (he:∀ env,starEach (e :: es) env=(false,eval e env) :: starEach es env:=by intro _;rfl) (hpl:∀ env,(backTo pos (starEach es env)).any (·.1)=false:=by intro _;rfl):bG D (.Call (.Name x p) (e :: es) [] pos) (mO i f sp tas):=by
 obtain ⟨fd,ps,F,kp,hb⟩:=F.ex
 obtain ⟨t,q,s⟩:=ha
 refine ⟨KD i f (gL D.K sp) t,fun X h=>?_,fun σ τ H M Q' rs rm h Q c=>?_⟩
 ·have F':dX X.prog X.w X.K X.mg X.base j6 j f fd ps (gL D.K sp):=by rw [h.prog,h.w,h.K,h.mg,h.base];exact F
  exact Pp (by rw [h.N];exact hN) (by rw [h.sc];exact hv) F' (h.room.mono hj) (by rw [h.K];exact kp) (by rw [h.K];exact hb) (q X h) hd hcd (he _) (hpl _)
 ·refine yM i σ τ H M _ rs rm h _ fun u v M1 H1 s1 rm1 ru h1=>?_
  obtain ⟨rfl,h1⟩:=h1
  refine ⟨ru.ref,s σ τ H1 M1 _ (rs.stp s1) rm1 h1 _ fun us vs M2 H2 s2 rm2 rus h2=>?_⟩
  exact ⟨us,M2,Q',rm2,rus,h2,cO.stp c (s1.trans s2)⟩
end
end U2
namespace U2
open PySem PySem.Spec PyProof.Rows L2
def Pb (lo:Int) (n:Nat):It:=⟨fun i _=>i < n,fun i H x H'=>H'=H/\x=.int (lo + i * 2),fun i _=>n<=i⟩
theorem D7 {P:Program} {w:World} {K:PySem.W.Frag} {tg:Expr} (it:Addr) (lo:Int) (n:Nat):Turn P w K tg (Pb lo n) [it] it (fun i h=>IsRangeIter h it (lo + (i:Nat) * 2) ((n:Int) - (i:Nat)) 2) where
 mem:=by simp
 obj:=fun i h st b hb=>by
  have e:b=it:=by simpa using hb
  subst e
  exact ⟨_,st,fun v z=>by
   have z':Data.fields _=Data.cell v:=z
   cases z'⟩
 keep:=fun i h h' st k=>k it (by simp) _ st
 item:=by
  intro X hP hw hK hc i pins s σ H E I hf st hg
  subst hP hw hK
  obtain ⟨f0,f1,f2,f3,f4,f5⟩:=hf it (by simp)
  have W:=Walks.range (prog:=X.prog) (w:=X.w) (I.ok.hd hc) it lo 2 n
  refine W.item i s _ _ hg st fun v h' tk hv st' kk=>?_
  obtain ⟨t,rfl⟩:=hv
  have I1:L2.Inv X pins σ H { s with heap:=h',toks:=tk }:=I.turned (fun b o hb e=>kk b o (by simpa using hb) e) f0 f1 f3 f4 f5
  exact ⟨_,rfl,tR (s:={ s with heap:=h',toks:=tk }) (n:="range_iterator") st' rfl rfl (by decide) ⟨.int (lo + i * 2),H,I1,⟨t,rfl⟩,⟨rfl,rfl⟩,st',fun b hb=>(hf b hb).1⟩⟩
 done:=by
  intro X hP hw hK hc i pins s σ H E I hf st hg
  subst hP hw hK
  obtain ⟨f0,f1,f2,f3,f4,f5⟩:=hf it (by simp)
  exact wpAny_pyNext_range_end (I.ok.hd hc) st (by have:n<=i:=hg;omega) fun h' eb=>⟨rfl,I.turned (t':=s.toks) (fun b o hb e=>eb b o hb e) f0 f1 f3 f4 f5⟩
 self:=fun _ _ _ _ _ st h=>wpAny_pyIter_rangeiter st h
def half (j:Int):Nat:=((j + 1) / 2).toNat
def P7 (ta:TA):TI:=fun σ H R=>ta σ H fun vs H1=>∃ j:Int,vs=[.int 0,.int j,.int 2]/\0<=j/\j < 2 ^ 61/\R (Pb 0 (half j)) H1
theorem BZ {j:Int} (h:0<=j):Builtin.Range.rangeSize 0 j 2=(half j:Nat):=by
 unfold Builtin.Range.rangeSize half
 simp only [show (2:Int) > 0 by decide,if_true]
 split <;> omega
theorem Nc {j:Int} (h:0<=j) (h2:j < 2 ^ 61):Builtin.Range.small 0 j 2=true:=by
 unfold Builtin.Range.small
 rw [BZ h]
 unfold half
 simp only [Builtin.Range.rangeFitsLong,Bool.and_eq_true,Bool.or_eq_true,decide_eq_true_eq,beq_iff_eq,show (2:Int) > 0 by decide,if_true]
 omega
theorem NA {X:Cx} {tg a b c:Expr} {ta:TA} {p pos:Pos} (hg:Gl X "range") (hm:X.mg "range"=none) (ha:PA X [a,b,c] ta) (hs:starEach [a,b,c] X.env=(false,eval a X.env) :: starEach [b,c] X.env) (hs2:(backTo pos (starEach [b,c] X.env)).any (·.1)=false) :
  PI X tg (.Call (.Name "range" p) [a,b,c] [] pos) (P7 ta):=by
 intro pins s σ H R I h
 refine Call_ (lH I hg hm boot_range (PyProof.Rows.callWith_type1 (bP (ha pos pins s σ H _ I h) fun us s1 ⟨vs,H1,I1,r1,q1⟩=>?_) hs hs2))
 obtain ⟨j,e,q1,q2,q⟩:=q1
 subst e
 cases r1 with
 | cons r rr=>cases rr with
  | cons r' rr=>cases rr with
   | cons r'' rr =>
    cases rr
    obtain ⟨t,rfl⟩:=r
    obtain ⟨t',rfl⟩:=r'
    obtain ⟨t'',rfl⟩:=r''
    refine call_range_3 (by decide) ?_
    refine wpAny_pyIter_range (IsRange.new ..) (Nc q1 q2) ?_
    have I2:L2.Inv X pins σ H1 { s1 with heap:=s1.heap.push { cls:=.type "range",data:=.fields #[.int 0 t,.int j t',.int 2 t''] },toks:=s1.toks }:=I1.kept fun b o e=>Heap.get?_push_of_some _ e
    refine ⟨(s1.heap.push { cls:=.type "range",data:=.fields #[.int 0 t,.int j t',.int 2 t''] }).objs.size,[(s1.heap.push { cls:=.type "range",data:=.fields #[.int 0 t,.int j t',.int 2 t''] }).objs.size],_,_,H1,rfl,
     I2.kept (t':=s1.toks) fun b o e=>Heap.get?_push_of_some _ e,D7 _ 0 (half j),?_,fun b hb=>?_,q⟩
    ·have e1:(0:Int) + ((0:Nat):Int) * 2=0:=by simp
     have e2:((half j:Nat):Int) - ((0:Nat):Int)=Builtin.Range.rangeSize 0 j 2:=by rw [BZ q1];simp
     show IsRangeIter _ _ ((0:Int) + ((0:Nat):Int) * 2) (((half j:Nat):Int) - ((0:Nat):Int)) 2
     rw [e1,e2]
     exact Heap.get?_push_size _ rfl
    ·have e:b=(s1.heap.push { cls:=.type "range",data:=.fields #[.int 0 t,.int j t',.int 2 t''] }).objs.size:=by simpa using hb
     subst e
     exact I2.fpOk (Nat.le_refl _) (I2.hok.fresh (Nat.le_refl _))
def jJ (n:Nat):List U:=(List.range n).map fun (k:Nat)=>U.int ((k:Int) * 2)
theorem u4 {n i:Nat} {x:U} (h:(jJ n)[i]?=some x):x=.int ((i:Int) * 2)/\i < n:=by
 have hi:i < n:=by
  have:=(List.getElem?_eq_some_iff.mp h).1
  simpa [jJ] using this
 simp only [jJ,List.getElem?_map,List.getElem?_range hi,Option.map_some] at h
 exact ⟨(Option.some.inj h).symm,hi⟩
theorem D0 (n:Nat):(jJ n).length=n:=by simp [jJ]
theorem Ed {K:PySem.W.Frag} {n:Nat} {H:Hp} {M:aI}:Walk K (Pb 0 n) ⟨none,jJ n⟩ H M:=by
 refine ⟨fun H1 M1 s rm _ i u e=>?_,fun H1 M1 s rm _=>?_⟩
 ·obtain ⟨rfl,hi⟩:=u4 e
  refine ⟨hi,fun x H2 y=>?_⟩
  obtain ⟨rfl,rfl⟩:=y
  exact ⟨bE.refl _ _,rm,by rw [Int.zero_add];exact cP⟩
 ·show n<=(jJ n).length
  rw [D0];exact Nat.le_refl _
def Hd (ta:UA):UI:=fun τ M R=>ta τ M fun us M1=>match us with
 | [.int i,.int j,.int k]=>i=0/\k=2/\0<=j/\j < 2 ^ 61/\R ⟨none,jJ (half j)⟩ M1
 | _=>False
theorem OO {K:PySem.W.Frag} {ta:TA} {ta':UA} (h:kD K ta ta'):sZ K (P7 ta) (Hd ta'):=fun σ τ H M R' rs rm q R c=>h σ τ H M _ rs rm q _ fun us vs M1 H1 s1 rm1 ru h1=>by
 split at h1
 ·rename_i i j k
  obtain ⟨rfl,rfl,h2,h3,h4⟩:=h1
  obtain ⟨v,vs',rfl,a,b⟩:=ru.inv_cons
  obtain ⟨v2,vs2,rfl,a2,b2⟩:=b.inv_cons
  obtain ⟨v3,rfl,a3⟩:=b2.one
  cases a.int
  cases a2.int
  cases a3.int
  exact ⟨j,rfl,h2,h3,c _ _ M1 H1 s1 rm1 Ed h4⟩
 ·exact h1.elim
theorem Sv {D:Dat} {tg a b c:Expr} {p pos:Pos} {ta:UA} (hm:D.mg "range"=none) (ha:mM D [a,b,c] ta) (hg:D.sc.names.lookup ("range":Str)=some .globalImplicit:=by rfl) (hs:∀ env,starEach [a,b,c] env=(false,eval a env) :: starEach [b,c] env:=by intro _;rfl) (hs2:∀ env,(backTo pos (starEach [b,c] env)).any (·.1)=false:=by intro _;rfl):zJ D tg (.Call (.Name "range" p) [a,b,c] [] pos) (Hd ta):=by
 obtain ⟨_,q,s⟩:=ha
 exact ⟨_,fun X h=>NA (by show X.env.scope.names.lookup _=_;rw [h.sc];exact hg) (by rw [h.mg];exact hm) (q X h) (hs _) (hs2 _),OO s⟩
end U2
namespace U2
open PySem PySem.Spec PyProof.Rows L2
def AM:List U->Option (List Str)
 | []=>some []
 | .str b :: r=>(AM r).map (b :: ·)
 | _=>none
theorem Ms {K:PySem.W.Frag} {H:Hp} {M:aI}:∀ {us:List U} {vs:List V} {bs:List Str},aS K H M us vs->AM us=some bs->vs=bs.map V.str
 | [],_,_,r,h=>by cases h;exact r.inv_nil
 | u :: us,_,bs,r,h=>by
  obtain ⟨v,vs',rfl,a,b⟩:=r.inv_cons
  cases u with
  | str y =>
   simp only [AM] at h
   cases e:AM us with
   | none=>rw [e] at h;cases h
   | some cs =>
    rw [e] at h
    cases h
    rw [Ms b e,a.str];rfl
  | _=>cases h
end U2
namespace U2
open PySem L2
theorem CT {α:Type} {a:α} {r:List α}:eF (a :: r) 0=some a:=eC (j:=0) rfl
theorem Cw {α:Type} {a b:α} {r:List α}:eF (a :: b :: r) 1=some b:=eC (j:=1) rfl
theorem at2 {α:Type} {a b c:α} {r:List α}:eF (a :: b :: c :: r) 2=some c:=eC (j:=2) rfl
theorem A5 {α:Type} {a b c d:α} {r:List α}:eF (a :: b :: c :: d :: r) 3=some d:=eC (j:=3) rfl
theorem WC {α:Type} (l:List α) (a:α):(l++[a]).getLast?=some a:=by simp
theorem WI {α:Type} (l:List α) (a:α):(l++[a]).dropLast=l:=List.dropLast_concat
theorem vL {α:Type} (a:α) (r:List α):eA (a :: r) (some 1) none=r:=by
 unfold eA
 simp [HT.bS]
 try omega
theorem lF {M:aI}:view M .non=.non:=rfl
theorem m9 {M:aI} {x:Bool}:view M (.bl x)=.bl x:=rfl
theorem lC {M:aI} {x:Int}:view M (.int x)=.int x:=rfl
theorem kZ {M:aI} {x:Str}:view M (.str x)=.str x:=rfl
theorem kX {M:aI} {x:List U}:view M (.tup x)=.tup x:=rfl
theorem kY {M:aI} {x:List U}:view M (.lst x)=.lst x:=rfl
theorem j3 {M:aI} {p:Addr} {us:List U}:view (mup M p (.lst us)) (.ref p)=.lst us:=jA aX
theorem iW {M:aI} {p:Addr} {us:List U}:Mo (mup M p (.lst us)) (.ref p):=⟨us,j3⟩
theorem Sub.none {M M':aI} {p:Addr} (h:Sub M M') (hp:M' p=none):M p=none:=by
 cases e:M p with
 | none=>rfl
 | some o=>rw [h p o e] at hp;cases hp
theorem gJ {o:Bool} {k:Nat} {ix:List Nat} {wi:UI} {g:UG} {te:UE} {τ:SU} {M M1:aI} {Q:UK} {S:Src} (zs:List U) (hw:∀ R:Src->aI->Prop,R S M1->wi τ M R) (hl:zs.length=S.xs.length) (hz:S.xs.length<=sizeLine) (hs:S.ok M1)
  (h:∀ (i:Nat) x y,S.xs[i]?=some x->zs[i]?=some y->∀ M,Sub M1 M->∀ R:UK,R y M->g x (dR k ix τ) M fun τ2 M2=>te τ2 M2 R)
  (q:kB o zs M1 Q):uN o k ix wi g (fun _ M Q=>Q true M) te τ M Q:=by
 refine hw _ ⟨hz,fun D hD=>⟨fun i ys M=>ys=zs.take i/\M=mup M1 D (.lst ys)/\i<=S.xs.length,⟨by simp,rfl,Nat.zero_le _⟩,?_,?_,?_⟩⟩
 ·rintro i ys M ⟨rfl,rfl,hi⟩
  refine ⟨fun a e=>?_,aX,?_⟩
  ·have:=hs a e
   rw [cB (fun z=>by subst z;rw [hD] at this;cases this)]
   exact this
  ·rw [List.length_take];omega
 ·rintro i x ys M e ⟨rfl,rfl,hi⟩
  have hlt:i < S.xs.length:=(List.getElem?_eq_some_iff.mp e).1
  have hy:zs[i]?=some zs[i]:=by simp [show i < zs.length by omega]
  have tk:zs.take (i + 1)=zs.take i++[zs[i]]:=by rw [List.take_add_one,hy];rfl
  refine h i x zs[i] e hy (mup M1 D (.lst (zs.take i))) ((Sub.refl M1).mup hD) (fun y M4=>M4 D=some (.lst (zs.take i))/\(zs.take i++[y]=zs.take (i + 1)/\mup M4 D (.lst (zs.take i++[y]))=mup M1 D (.lst (zs.take i++[y]))/\i + 1<=S.xs.length)) ?_
  exact ⟨aX,tk.symm,bU,hlt⟩
 ·rintro ys M ⟨rfl,rfl,hi⟩
  rw [show zs.take S.xs.length=zs by rw [<- hl];exact List.take_length]
  cases o with
  | true=>exact q D hD
  | false=>exact ⟨M1,(Sub.refl M1).mup hD,hD,q⟩
end U2
namespace U2
open PySem PySem.Spec PyProof.Rows L2
section
variable {prog:Program} {w:World} {A:Around} {E:Value->Shared->Prop} {s:Shared}
theorem uT {it t:Addr} {i:Nat} {items} {x:Value} {Q:Value->Shared->Prop} (hit:s.heap.IsTupleIter it t i)
  (ht:s.heap.IsTuple t items) (hx:items[i]?=some x)
  (hQ:∀ h',h'.IsTupleIter it t (i + 1)->Heap.SameBut it s.heap h'->Q x { s with heap:=h' }) :
  wpAny (model prog w) A (Builtin.SmallTypes.nextOf (.ref it)) Q E s:=by
 obtain ⟨o,ho,hc,hd⟩:=id hit
 obtain ⟨ol,hol,_,nl,hdl⟩:=ht
 unfold Builtin.SmallTypes.nextOf
 refine wpAny_bind (wpAny_callSpecial?_slot (name:=Str.ofString "__next__") hit.typeIs PySem.F.slot_tuple_iterator_next
  (wpAny_call_entry PySem.F.slot_tuple_iterator_next hit.typeIs PySem.F.entry_tuple_iterator_next ?_ (PySem.F.args_tuple_iterator_next_1 _)))
 show wpAny _ _ (field (.ref it) 0 >>= _) _ _ s
 refine wpAny_bind (wpAny_field ho hd (x:=.ref t) rfl ?_)
 show wpAny _ _ (if (Value.ref t == Value.none)=true then _ else _) _ _ s
 rw [if_neg (show ¬ ((Value.ref t == Value.none)=true) from Bool.false_ne_true)]
 show wpAny _ _ (field (.ref it) 1 >>= _) _ _ s
 refine wpAny_bind (wpAny_field ho hd (x:=.int i 0) rfl ?_)
 show wpAny _ _ (seqItems? (.ref t) >>= _) _ _ s
 refine wpAny_bind (wpAny_seqItems hol hdl ?_)
 simp only [Int.toNat_natCast,hx]
 refine wpAny_bind (wpAny_setField ho hd (by simp) (wpAny_pure ⟨x,rfl,wpAny_pure (hQ _ ?_ (Heap.SameBut.update ..))⟩))
 exact ⟨_,Heap.get?_update_self _ ho (Obj.isFreed_of_fields (Obj.data_mapFields hd _)),(Obj.cls_mapFields ..).trans hc,by
  rw [Obj.data_mapFields hd];simp [rawInt]⟩
theorem vJ {it t:Addr} {i:Nat} {items} {Q:Value->Shared->Prop} (hh:A.handled=none)
  (hit:s.heap.IsTupleIter it t i) (ht:s.heap.IsTuple t items) (hx:items[i]?=none)
  (hE:∀ h' e,Heap.ExtBut it s.heap h'->(∃ o,h'.get? e=some o/\o.cls=.type "StopIteration")->E (.ref e) { s with heap:=h' }) :
  wpAny (model prog w) A (Builtin.SmallTypes.nextOf (.ref it)) Q E s:=by
 obtain ⟨o,ho,hc,hd⟩:=id hit
 obtain ⟨ol,hol,_,nl,hdl⟩:=ht
 unfold Builtin.SmallTypes.nextOf
 refine wpAny_bind (wpAny_callSpecial?_slot (name:=Str.ofString "__next__") hit.typeIs PySem.F.slot_tuple_iterator_next
  (wpAny_call_entry PySem.F.slot_tuple_iterator_next hit.typeIs PySem.F.entry_tuple_iterator_next ?_ (PySem.F.args_tuple_iterator_next_1 _)))
 show wpAny _ _ (field (.ref it) 0 >>= _) _ _ s
 refine wpAny_bind (wpAny_field ho hd (x:=.ref t) rfl ?_)
 show wpAny _ _ (if (Value.ref t == Value.none)=true then _ else _) _ _ s
 rw [if_neg (show ¬ ((Value.ref t == Value.none)=true) from Bool.false_ne_true)]
 show wpAny _ _ (field (.ref it) 1 >>= _) _ _ s
 refine wpAny_bind (wpAny_field ho hd (x:=.int i 0) rfl ?_)
 show wpAny _ _ (seqItems? (.ref t) >>= _) _ _ s
 refine wpAny_bind (wpAny_seqItems hol hdl ?_)
 simp only [Int.toNat_natCast,hx]
 refine wpAny_bind (wpAny_rule (wpAny_bind (wpAny_setField ho hd (by simp) ?_)))
 show wpAny _ _ (newExc (.type "StopIteration") [] >>= _) _ _ _
 refine wpAny_bind ?_
 simp only [newExc,newTuple]
 refine wpAny_bind (wpAny_newObj_type ?_ (by size_fits))
 refine wpAny_bind (m:=firstArgMember _ _) (wpAny_of_eq (a:=Value.none) (by first | rfl | (simp only [firstArgMember];rfl)) ?_)
 refine wpAny_newObj_type ?_ (by size_fits)
 simp only [raiseNew]
 refine wpAny_bind (wpAny_handled ?_)
 first | rw [show A.in1.handled=none from hh] | rw [hh]
 refine wpAny_bind (wpAny_pure (wpAny_throw ?_))
 exact hE _ _ (((Heap.SameBut.update ..).extBut.push _).push _) ⟨_,Heap.get?_push_size _ rfl,rfl⟩
theorem uY {prog:Program} {w:World} {A:Around} (hh:A.handled=none) (it l:Addr) (hne:l≠it) (items:Array Value) :
  Draws prog w A it [it,l] items.size (fun i v=>items[i]?=some v) (fun i h=>h.IsTupleIter it l i/\h.IsTuple l items) where
 live:=fun _ _ st=>let ⟨o,ho,_⟩:=st.1;⟨o,ho⟩
 frame:=fun _ _ _ st hk=>⟨st.1.at fun o e=>hk it (by simp) o e,let ⟨o,ho,r⟩:=st.2;⟨o,hk l (by simp) o ho,r⟩⟩
 item:=fun i s Q E hi st hQ=>by
  refine uT st.1 st.2 (x:=items[i]) (by simp [hi]) fun h' hit' hs'=>?_
  exact hQ _ h' s.toks (by simp [hi]) ⟨hit',let ⟨o,ho,r⟩:=st.2;⟨o,hs'.extBut l o hne ho,r⟩⟩ hs'
 done:=fun s Q E st hE=>vJ hh st.1 st.2 (by simp) hE
end
def zS (b:Bool) (K:PySem.W.Frag) (H:Hp) (a:Addr) (xs:List V):Prop:=match b with
 | true=>dM K H a xs
 | false=>fA K H a xs
def jV (b:Bool) (h:Heap) (a:Addr) (xs:Array Value):Prop:=match b with
 | true=>h.IsList a xs
 | false=>h.IsTuple a xs
def mK (b:Bool) (h:Heap) (it a:Addr) (i:Nat):Prop:=match b with
 | true=>h.IsListIter it a i
 | false=>h.IsTupleIter it a i
def Wh:Bool->String
 | true=>"list"
 | false=>"tuple"
def rZ:Bool->String
 | true=>"list_iterator"
 | false=>"tuple_iterator"
theorem j7 {h:Heap} {b b':Addr} {o o':Obj} {n n':String} (x:h.get? b=some o) (y:h.get? b'=some o') (p:o.cls=.type n) (q:o'.cls=.type n') (ne:n≠n'):b≠b':=fun z=>by
 subst z;rw [x] at y;cases y;rw [p] at q;exact ne (Value.type.inj q)
theorem jV.obj {b:Bool} {h:Heap} {a:Addr} {xs:Array Value} (p:jV b h a xs):∃ o n,h.get? a=some o/\o.cls=.type (Wh b)/\o.data=.seq xs n:=by
 cases b <;> (obtain ⟨o,e,c,n,d⟩:=p;exact ⟨o,n,e,c,d⟩)
theorem mK.obj {b:Bool} {h:Heap} {it a:Addr} {i:Nat} (p:mK b h it a i):∃ o,h.get? it=some o/\o.cls=.type (rZ b)/\o.data=.fields #[.ref a,.int i 0]:=by
 cases b <;> exact p
theorem mK.of {b:Bool} {h:Heap} {it a:Addr} {i:Nat} {o:Obj} (e:h.get? it=some o) (c:o.cls=.type (rZ b)) (d:o.data=.fields #[.ref a,.int i 0]):mK b h it a i:=by
 cases b <;> exact ⟨o,e,c,d⟩
theorem mK.at {b:Bool} {h h':Heap} {it a:Addr} {i:Nat} (p:mK b h it a i) (k:∀ o,h.get? it=some o->h'.get? it=some o):mK b h' it a i :=
 let ⟨o,e,c,d⟩:=p.obj;.of (k o e) c d
theorem jV.ne {b b':Bool} {h:Heap} {a it c:Addr} {xs:Array Value} {i:Nat} (p:jV b h a xs) (q:mK b' h it c i):a≠it :=
 let ⟨_,_,e,c,_⟩:=p.obj;let ⟨_,e',c',_⟩:=q.obj;j7 e e' c c' (by cases b <;> cases b' <;> decide)
theorem Up {X:Cx} {pins:List (Addr × Obj)} {σ:L2.St} {H:Hp} {s:Shared} {b:Bool} {a:Addr} {xs:List V} (I:L2.Inv X pins σ H s) (h:zS b X.K H a xs):∃ its:List Value,Vals xs its/\jV b s.heap a its.toArray/\xs.length<=sizeLine:=by
 cases b
 ·exact I.tuple h
 ·obtain ⟨its,r,p,z⟩:=I.list h;exact ⟨its,r,p.isList,z⟩
theorem W2 {X:Cx} {pins:List (Addr × Obj)} {σ:L2.St} {H:Hp} {s:Shared} {b:Bool} {a:Addr} {xs ys:List V} (I:L2.Inv X pins σ H s) (h:zS b X.K H a xs) (h':zS b X.K H a ys):xs=ys:=by
 cases b
 ·exact I.tuple_inj h h'
 ·exact I.list_inj h h'
theorem y7 {prog:Program} {w:World} {A:Around} (b:Bool) (hh:A.handled=none) (it l:Addr) (hne:l≠it) (items:Array Value) :
  Draws prog w A it [it,l] items.size (fun i v=>items[i]?=some v) (fun i h=>mK b h it l i/\jV b h l items):=by
 cases b
 ·exact uY hh it l hne items
 ·exact Draws.list hh it l hne items
def Wm (b:Bool) (K:PySem.W.Frag) (H:Hp) (M:aI) (a:Addr) (vs:List V):Prop:=∀ H1 M1,bE H M H1 M1->zS b K H1 a vs
theorem WY {K:PySem.W.Frag} {H:Hp} {M:aI} {a:Addr} {vs:List V} (m:M a=none/\H a=some (.tup vs)):Wm false K H M a vs:=fun _ _ s=>.inl (.inl (s.to m.2 m.1).1)
section
variable {prog:Program} {w:World} {A:Around} {E:Value->Shared->Prop} {s:Shared}
theorem v5 (l:Addr) (items:Array Value) (n:Nat) (dd:Option Addr) (sl:Array (Option Value)) :
  Meets (Builtin.«enumerate.__new__» ⟨[.type "enumerate",.ref l],[]⟩) (fun _ R s=>s.heap.get? l=some { cls:=.type "tuple",dict:=dd,data:=.seq items n,slots:=sl } /\
   R (.ok (.ret (.ref (s.heap.push { cls:=.type "tuple_iterator",data:=.fields #[.ref l,.int 0 0] }).objs.size)))
    { s with heap:=(s.heap.push { cls:=.type "tuple_iterator",data:=.fields #[.ref l,.int 0 0] }).push { cls:=.type "enumerate",data:=.fields #[.none,.bool false,.ref s.heap.objs.size,rawInt 0,.none,.none] } }) :=
 .of_wp fun prog w A R s h=>by
  obtain ⟨hp,g,d,tk,os⟩:=s;obtain ⟨hl,h⟩:=h
  have hsub:=PySem.sub_enumerate
  have hL:Heap.IsTuple (Shared.heap ⟨hp,g,d,tk,os⟩) l items:=⟨_,hl,rfl,n,rfl⟩
  wp_walk using wpAny_loadPart' hl
  refine wpAny_stack_any fun st=>wpAny_pure ?_
  split
  ·rename_i c _ _ _ _ _
   cases (c == Value.type "enumerate")
   ·wp_walk using wpAny_loadPart' hl,wpAny_pyIter_tuple hL
    exact ⟨_,rfl,h⟩
   ·wp_walk using wpAny_loadPart' hl,wpAny_pyIter_tuple hL
    exact ⟨_,rfl,h⟩
  ·wp_walk using wpAny_loadPart' hl,wpAny_pyIter_tuple hL
   exact ⟨_,rfl,h⟩
theorem wG (l:Addr) (items:Array Value) (n:Nat) (dd:Option Addr) (sl:Array (Option Value)) :
  Meets (Builtin.«enumerate.__new__» ⟨[.type "enumerate",.ref l],[]⟩) (fun _ R s=>s.heap.get? l=some { cls:=.type "list",dict:=dd,data:=.seq items n,slots:=sl } /\
   R (.ok (.ret (.ref (s.heap.push { cls:=.type "list_iterator",data:=.fields #[.ref l,.int 0 0] }).objs.size)))
    { s with heap:=(s.heap.push { cls:=.type "list_iterator",data:=.fields #[.ref l,.int 0 0] }).push { cls:=.type "enumerate",data:=.fields #[.none,.bool false,.ref s.heap.objs.size,rawInt 0,.none,.none] } }) :=
 .of_wp fun prog w A R s h=>by
  obtain ⟨hp,g,d,tk,os⟩:=s;obtain ⟨hl,h⟩:=h
  have hsub:=PySem.sub_enumerate
  have hL:Heap.IsList (Shared.heap ⟨hp,g,d,tk,os⟩) l items:=⟨_,hl,rfl,n,rfl⟩
  wp_walk using wpAny_loadPart' hl
  refine wpAny_stack_any fun st=>wpAny_pure ?_
  split
  ·rename_i c _ _ _ _ _
   cases (c == Value.type "enumerate")
   ·wp_walk using wpAny_loadPart' hl,wpAny_pyIter_list hL
    exact ⟨_,rfl,h⟩
   ·wp_walk using wpAny_loadPart' hl,wpAny_pyIter_list hL
    exact ⟨_,rfl,h⟩
  ·wp_walk using wpAny_loadPart' hl,wpAny_pyIter_list hL
   exact ⟨_,rfl,h⟩
end
theorem pN {X:Cx} {pins:List (Addr × Obj)} {σ:L2.St} {H:Hp} {s:Shared} {h':Heap} {ch:List Addr} {T:Addr} {o:HO} {tk:Nat} (I:L2.Inv X pins σ H s) (hf:∀ b∈ch,kF X pins H b)
  (k:∀ b o,b ∉ ch->s.heap.get? b=some o->h'.get? b=some o) (hT:s.heap.objs.size<=T) (new:dB X.prog X.w (upd H T o) h' T o):L2.Inv X pins σ (upd H T o) { s with heap:=h',toks:=tk }:=by
 have hn:H T=none:=I.hok.fresh hT
 refine I.call' (ch:=ch) (H':=upd H T o) rfl ⟨fun b u q n hb hx=>k b u hx q,fun b u q n hb hx=>⟨u.slots,k b u hx q⟩,fun b u q n hx=>?_,fun b u q hx=>⟨u,k b u hx q⟩,fun b xs q=>by rw [bD (bJ q hn)];exact q,fun b u xs q=>by rw [bD (bJ q hn)];exact q,
  fun b ps q=>⟨#[],by rw [bD (bJ q hn),q];simp⟩⟩ (fun a u e=>?_) I.bare fun b hb=>⟨(hf b hb).2.2.2.1,(hf b hb).2.1,(hf b hb).2.2.2.2.1,(hf b hb).2.2.2.2.2⟩
 ·rw [bD (Nat.ne_of_lt (Nat.lt_of_lt_of_le (Heap.lt_size q) hT))];exact n
 ·by_cases ha:a=T
  ·subst ha;rw [b8] at e;cases e;exact new
  ·rw [bD ha] at e
   refine (I.hok a u e).stay (fun b z hb q=>k b z (fun hc=>?_) q) (fun c q=>by rw [bD (bJ q hn)];exact q) fun c xs q=>by rw [bD (bJ q hn)];exact q
   have hnone:=(hf b hc).1
   rcases hb with rfl | hb
   ·rw [hnone] at e;cases e
   ·rw [hnone] at hb;cases hb
def S6 (f:Bool) (K:PySem.W.Frag) (a:Addr):It :=
 ⟨fun i H=>∃ xs x,zS f K H a xs/\xs[i]?=some x,fun i H x H'=>∃ p v,(∀ xs,zS f K H a xs->xs[i]?=some v)/\H p=none/\x=.ref p/\H'=upd H p (.tup [.int i,v]),fun i H=>∃ xs,zS f K H a xs/\xs.length=i⟩
theorem K4 {P:Program} {w:World} {K:PySem.W.Frag} {elts:List Expr} {kk:Nat} {pos:Pos} (f:Bool) (a it e:Addr):Turn P w K (.Tuple elts kk pos) (S6 f K a) [e,it] e (fun i h=>(∃ old,IsEnum h e it i old)/\mK f h it a i) where
 mem:=by simp
 obj:=fun i h st b hb=>by
  obtain ⟨⟨old,he⟩,hi⟩:=st
  obtain ⟨o,ho,hc,hd⟩:=hi.obj
  have:b=e\/b=it:=by simpa using hb
  rcases this with rfl | rfl
  ·exact ⟨_,he,fun v z=>by
    have z':Data.fields _=Data.cell v:=z
    cases z'⟩
  ·exact ⟨o,ho,fun v z=>by rw [hd] at z;cases z⟩
 keep:=fun i h h' st k=>let ⟨⟨old,he⟩,hi⟩:=st;⟨⟨old,k e (by simp) _ he⟩,hi.at fun o q=>k it (by simp) o q⟩
 item:=by
  intro X hP hw hK hc i pins s σ H E I hf st hg
  subst hP hw hK
  obtain ⟨⟨old,he⟩,hit⟩:=st
  obtain ⟨xs,x,hq,hx⟩:=hg
  obtain ⟨its,rv,p,hz⟩:=Up I hq
  obtain ⟨u,hu,ru⟩:=rv.get hx
  have p':jV f s.heap a its.toArray:=p
  obtain ⟨oi,hoi,hci,hdi⟩:=hit.obj
  obtain ⟨oa,na,hoa,hca,hda⟩:=p'.obj
  have n1:a≠it:=p'.ne hit
  have n2:e≠it:=j7 he hoi rfl hci (by cases f <;> decide)
  have n3:e≠a:=j7 he hoa rfl hca (by cases f <;> decide)
  have W:=WalksT.enumerateD (prog:=X.prog) (w:=X.w) (A:=X.A) (y7 f (A:=X.A.in1) (show X.A.in1.handled=none from I.ok.hd hc) it a n1 its.toArray) e n2 (by simp [n2,n3]) (by simp)
  have hlt:i < its.toArray.size:=by
   have:=(List.getElem?_eq_some_iff.mp hu).1
   simpa using this
  have hD:=y7 f (prog:=X.prog) (w:=X.w) (A:=X.A.in1) (show X.A.in1.handled=none from I.ok.hd hc) it a n1 its.toArray
  refine wpAny_pyNext_enum_itemD hD he ⟨hit,p'⟩ hlt n2 (by simp [n2,n3]) fun y h' tk hy ho0 hs0 hT0 hsz0 hk0=>?_
  have helt:e < s.heap.objs.size:=Heap.lt_size he
  have hilt:it < s.heap.objs.size:=Heap.lt_size hoi
  have lL:iH h' s.heap.objs.size #[Value.int i tk,y]:=⟨_,hT0,rfl,rfl,_,rfl⟩
  have hk:∀ b o,b ∉ [e,it]->s.heap.get? b=some o->h'.get? b=some o:=fun b o hb z=>hk0 b o (fun e'=>hb (by simp [e'])) (fun e'=>hb (by simp [e'])) z
  have hMid:=(⟨⟨_,ho0⟩,hs0,Nat.ne_of_gt helt,Nat.ne_of_gt hilt⟩:(∃ x,IsEnumOut h' e it ((i:Int) + 1) x s.heap.objs.size)/\_/\s.heap.objs.size≠e/\s.heap.objs.size≠it)
  obtain ⟨T,hTe⟩:∃ T,T=s.heap.objs.size:=⟨_,rfl⟩
  rw [<- hTe] at lL hMid ⊢
  have hT:s.heap.objs.size<=T:=Nat.le_of_eq hTe.symm
  refine ⟨.ref T,rfl,W.go elts kk pos i T _ _ E hMid fun h'' hSt hk2=>?_⟩
  have hy':y=u:=by
   have h3:its[i]?=some y:=by simpa using hy
   rw [hu] at h3;exact (Option.some.inj h3).symm
  subst hy'
  have hTT:iH h'' T #[.int i tk,y]:=let ⟨o,ho,r⟩:=lL;⟨o,hk2 T o (W.apart i T _ hMid) ho,r⟩
  refine ⟨.ref T,upd H T (.tup [.int i,x]),pN (s:=s) (h':=h'') (tk:=tk + 1) (ch:=[e,it]) I hf (fun b o hb q=>hk2 b o (by simpa using hb) (hk b o (by simpa using hb) q)) hT ⟨by show 2<=sizeLine;decide,[.int i tk,y],.cons ⟨tk,rfl⟩ (.cons ru .nil),hTT⟩,rfl,⟨T,x,fun ys hy=>by rw [<- W2 I hq hy];exact hx,I.hok.fresh hT,rfl,rfl⟩,⟨by simpa using hSt.1,hSt.2.1⟩,fun b hb=>?_⟩
  have hn:=(hf b hb).1
  rw [bD (Nat.ne_of_lt (Nat.lt_of_lt_of_le ?_ hT))]
  ·exact hn
  ·have:b=e\/b=it:=by simpa using hb
   rcases this with rfl | rfl
   ·exact Heap.lt_size he
   ·exact Heap.lt_size hoi
 done:=by
  intro X hP hw hK hc i pins s σ H E I hf st hg
  subst hP hw hK
  obtain ⟨⟨old,he⟩,hit⟩:=st
  obtain ⟨xs,hq,hx⟩:=hg
  obtain ⟨its,rv,p,hz⟩:=Up I hq
  have p':jV f s.heap a its.toArray:=p
  obtain ⟨oi,hoi,hci,hdi⟩:=hit.obj
  obtain ⟨oa,na,hoa,hca,hda⟩:=p'.obj
  have n1:a≠it:=p'.ne hit
  have n2:e≠it:=j7 he hoi rfl hci (by cases f <;> decide)
  have n3:e≠a:=j7 he hoa rfl hca (by cases f <;> decide)
  have W:=WalksT.enumerateD (prog:=X.prog) (w:=X.w) (A:=X.A) (y7 f (A:=X.A.in1) (show X.A.in1.handled=none from I.ok.hd hc) it a n1 its.toArray) e n2 (by simp [n2,n3]) (by simp)
  have hi:i=its.toArray.size:=by rw [List.size_toArray,<- rv.length];exact hx.symm
  subst hi
  refine W.done s _ E ⟨⟨old,he⟩,hit,p'⟩ fun h' tk hk=>⟨rfl,?_⟩
  have:=I.call' (ch:=[e,it]) (H':=H) (s':={ s with heap:=h',toks:=tk }) rfl ⟨fun b u q n hb hx=>hk b u (by simpa using hx) q,fun b u q n hb hx=>⟨u.slots,hk b u (by simpa using hx) q⟩,fun b u q n hx=>n,fun b u q hx=>⟨u,hk b u (by simpa using hx) q⟩,fun b xs q=>q,fun b u xs q=>q,fun b ps q=>⟨#[],by rw [q];simp⟩⟩
   (fun a u e'=>?_) I.bare fun b hb=>⟨(hf b hb).2.2.2.1,(hf b hb).2.1,(hf b hb).2.2.2.2.1,(hf b hb).2.2.2.2.2⟩
  ·exact this
  ·refine (I.hok a u e').stay (fun b z hb q=>hk b z (fun hc=>?_) q) (fun _ q=>q) fun _ _ q=>q
   have hnone:=(hf b (by simpa using hc)).1
   rcases hb with rfl | hb
   ·rw [hnone] at e';cases e'
   ·rw [hnone] at hb;cases hb
 self:=fun _ _ _ _ _ st h=>let ⟨⟨old,he⟩,_⟩:=st;wpAny_pyIter_enum he h
theorem HP {prog:Program} {w:World} {A:Around} {E:Value->Shared->Prop} {s:Shared} {f:Bool} {l:Addr} {items:Array Value} {Q:Value->Shared->Prop}
  (hl:jV f s.heap l items)
  (h:∀ h',IsEnum h' (s.heap.objs.size + 1) s.heap.objs.size 0 .none->mK f h' s.heap.objs.size l 0->h'.objs.size=s.heap.objs.size + 2 ->
   (∀ b o,s.heap.get? b=some o->h'.get? b=some o)->Q (.ref (s.heap.objs.size + 1)) { s with heap:=h' }) :
  wpAny (model prog w) A (call (.type "enumerate") [.ref l]) Q E s:=by
 have fin:Q (.ref (s.heap.push { cls:=.type (rZ f),data:=.fields #[.ref l,.int 0 0] }).objs.size)
   { s with heap:=(s.heap.push { cls:=.type (rZ f),data:=.fields #[.ref l,.int 0 0] }).push { cls:=.type "enumerate",data:=.fields #[.none,.bool false,.ref s.heap.objs.size,rawInt 0,.none,.none] } } /\
   ((s.heap.push { cls:=.type (rZ f),data:=.fields #[.ref l,.int 0 0] }).push { cls:=.type "enumerate",data:=.fields #[.none,.bool false,.ref s.heap.objs.size,rawInt 0,.none,.none] }).get? (s.heap.push { cls:=.type (rZ f),data:=.fields #[.ref l,.int 0 0] }).objs.size=some { cls:=.type "enumerate",data:=.fields #[.none,.bool false,.ref s.heap.objs.size,rawInt 0,.none,.none] }:=by
  have hz:(s.heap.push { cls:=.type (rZ f),data:=.fields #[.ref l,.int 0 0] }).objs.size=s.heap.objs.size + 1:=Heap.size_push ..
  have he:=Heap.get?_push_size (s.heap.push { cls:=.type (rZ f),data:=.fields #[.ref l,.int 0 0] })
   (o:={ cls:=.type "enumerate",data:=.fields #[.none,.bool false,.ref s.heap.objs.size,rawInt 0,.none,.none] }) rfl
  refine ⟨?_,he⟩
  rw [hz] at he
  rw [hz]
  exact h _ he (.of (Heap.get?_push_of_some _ (Heap.get?_push_size _ rfl)) rfl rfl) (by rw [Heap.size_push,hz]) fun b o x=>Heap.get?_push_of_some _ (Heap.get?_push_of_some _ x)
 obtain ⟨⟨oc,od,odt,osl⟩,n,ho,hc,hd⟩:=hl.obj
 have hc':oc=.type (Wh f):=hc
 have hd':odt=.seq items n:=hd
 subst hc' hd'
 cases f
 ·exact callType_new F.called_enumerate (by decide) (F.typeCall_enumerate_1 _) (F.newCall_enumerate_1 _) (fun obj=>F.args_object_init_2 obj _) F.entry_enumerate_new
   (v5 l items n od osl) ⟨ho,⟨_,fin.2,rfl⟩,fin.1⟩
 ·exact callType_new F.called_enumerate (by decide) (F.typeCall_enumerate_1 _) (F.newCall_enumerate_1 _) (fun obj=>F.args_object_init_2 obj _) F.entry_enumerate_new
   (wG l items n od osl) ⟨ho,⟨_,fin.2,rfl⟩,fin.1⟩
def Qj (f:Bool) (K:PySem.W.Frag) (ta:TA):TI:=fun σ H R=>ta σ H fun vs H1=>∃ a,vs=[.ref a]/\(∃ xs,zS f K H1 a xs)/\R (S6 f K a) H1
theorem R8 {f:Bool} {X:Cx} {elts:List Expr} {kk:Nat} {tpos:Pos} {a:Expr} {ta:TA} {p pos:Pos} (hg:Gl X "enumerate") (hm:X.mg "enumerate"=none) (ha:PA X [a] ta) (hs:starEach [a] X.env=[(false,eval a X.env)]) :
  PI X (.Tuple elts kk tpos) (.Call (.Name "enumerate" p) [a] [] pos) (Qj f X.K ta):=by
 intro pins s σ H R I h
 refine Call_ (lH I hg hm boot_enumerate (PyProof.Rows.callWith_type1 (bP (ha pos pins s σ H _ I h) fun us s1 ⟨vs,H1,I1,r1,q1⟩=>?_) hs rfl))
 obtain ⟨a,e,⟨xs,hq⟩,q⟩:=q1
 subst e
 cases r1 with
 | cons r rr =>
  cases rr
  cases r
  obtain ⟨its,rv,p,hz⟩:=Up I1 hq
  refine HP p fun h' he hit hsz hk=>?_
  refine wpAny_pyIter_enum (s:={ s1 with heap:=h' }) he ?_
  have I2:L2.Inv X pins σ H1 { s1 with heap:=h',toks:=s1.toks }:=I1.kept hk
  refine ⟨s1.heap.objs.size + 1,[s1.heap.objs.size + 1,s1.heap.objs.size],_,_,H1,rfl,I2,K4 f a s1.heap.objs.size (s1.heap.objs.size + 1),⟨⟨_,he⟩,hit⟩,fun b hb=>?_,q⟩
  have e:b=s1.heap.objs.size + 1\/b=s1.heap.objs.size:=by simpa using hb
  rcases e with rfl | rfl
  ·exact I1.fpOk (Nat.le_succ _) (I1.hok.fresh (Nat.le_succ _))
  ·exact I1.fpOk (Nat.le_refl _) (I1.hok.fresh (Nat.le_refl _))
def numbered (us:List U):List U:=us.zipIdx.map fun p=>.tup [.int (p.2:Nat),p.1]
theorem sR (us:List U):(numbered us).length=us.length:=by simp [numbered]
theorem sM {us:List U} {i:Nat} {x:U} (h:(numbered us)[i]?=some x):∃ u,us[i]?=some u/\x=.tup [.int i,u]:=by
 simp only [numbered,List.getElem?_map,List.getElem?_zipIdx] at h
 cases e:us[i]? with
 | none=>rw [e] at h;simp at h
 | some u=>rw [e] at h;simp at h;exact ⟨u,rfl,h.symm⟩
theorem LJ {f:Bool} {K:PySem.W.Frag} {a:Addr} {us:List U} {vs:List V} {H:Hp} {M:aI} (sq:Wm f K H M a vs) (r:aS K H M us vs):Walk K (S6 f K a) ⟨none,numbered us⟩ H M:=by
 refine ⟨fun H1 M1 s rm _ i u e=>?_,fun H1 M1 s rm _=>⟨vs,sq H1 M1 s,by show vs.length=(numbered us).length;rw [sR,r.length]⟩⟩
 obtain ⟨w,e1,rfl⟩:=sM e
 obtain ⟨v,e2,ru⟩:=r.get e1
 refine ⟨⟨vs,v,sq H1 M1 s,e2⟩,fun x H2 y=>?_⟩
 obtain ⟨p,v',y,hp,rfl,rfl⟩:=y
 have:=y vs (sq _ M1 s)
 rw [e2] at this;cases this
 have st:=bE.laid (o:=.tup [.int i,v]) rm hp
 have rr:aS K H1 M1 [.int i,w] [.int i,v]:=by
  simp only [aS]
  exact ⟨_,_,rfl,cP,_,_,rfl,ru.stp s,rfl⟩
 exact ⟨st,rm.laid hp,u9 (rm.no hp) b8 (rr.stp st)⟩
def nF (ta:UA):UI:=fun τ M R=>ta τ M fun us M1=>match us with
 | [.tup us]=>R ⟨none,numbered us⟩ M1
 | _=>False
theorem Oj {K:PySem.W.Frag} {ta:TA} {ta':UA} (h:kD K ta ta'):sZ K (Qj false K ta) (nF ta'):=fun σ τ H M R' rs rm q R c=>h σ τ H M _ rs rm q _ fun us vs M1 H1 s1 rm1 ru h1=>by
 split at h1
 ·rename_i xs
  obtain ⟨v,rfl,a⟩:=ru.one
  simp only [aY] at a
  obtain ⟨a,vs,rfl,m,r⟩:=a
  refine ⟨a,rfl,⟨vs,?_⟩,c _ _ M1 H1 s1 rm1 (LJ (WY m) r) h1⟩
  exact .inl (.inl m.2)
 ·exact h1.elim
theorem CA {D:Dat} {elts:List Expr} {kk:Nat} {tpos:Pos} {a:Expr} {p pos:Pos} {ta:UA} (hm:D.mg "enumerate"=none) (ha:mM D [a] ta) (hg:D.sc.names.lookup ("enumerate":Str)=some .globalImplicit:=by rfl) (hs:∀ env,starEach [a] env=[(false,eval a env)]:=by intro _;rfl):zJ D (.Tuple elts kk tpos) (.Call (.Name "enumerate" p) [a] [] pos) (nF ta):=by
 obtain ⟨_,q,s⟩:=ha
 exact ⟨_,fun X h=>h.K ▸ R8 (by show X.env.scope.names.lookup _=_;rw [h.sc];exact hg) (by rw [h.mg];exact hm) (q X h) (hs _),Oj s⟩
def tJ (ta:UA):UI:=fun τ M R=>ta τ M fun us M1=>match us with
 | [.lst us]=>R ⟨none,numbered us⟩ M1
 | _=>False
end U2
namespace U2
open PySem PySem.Spec PyProof.Rows L2
mutual
def fE (K:PySem.W.Frag) (H:Hp):PyData->V->Prop
 | .none,v=>v=.non
 | .bool b,v=>v=.bl b
 | .int i,v=>v=.int i
 | .str z,v=>v=.str z
 | .list ds,v=>∃ a xs,v=.ref a/\dM K H a xs/\dD K H ds xs
 | .tuple ds,v=>∃ a xs,v=.ref a/\fA K H a xs/\dD K H ds xs
 | .dict _,_=>False
def dD (K:PySem.W.Frag) (H:Hp):List PyData->List V->Prop
 | [],vs=>vs=[]
 | d :: ds,vs=>∃ v vs',vs=v :: vs'/\fE K H d v/\dD K H ds vs'
end
mutual
theorem fE.reads {X:Cx} {pins:List (Addr × Obj)} {σ:L2.St} {H:Hp} {s:Shared} (I:L2.Inv X pins σ H s):∀ {d:PyData} {v:V} {u:Value},fE X.K H d v->RelV v u->∃ as,Reads s.heap u d as
 | .none,v,u,h,r=>by simp only [fE] at h;subst h;cases r;exact ⟨_,.none⟩
 | .bool b,v,u,h,r=>by simp only [fE] at h;subst h;cases r;exact ⟨_,.bool b⟩
 | .int i,v,u,h,r=>by simp only [fE] at h;subst h;obtain ⟨t,rfl⟩:=r;exact ⟨_,.int i t⟩
 | .str z,v,u,h,r=>by simp only [fE] at h;subst h;obtain ⟨t,rfl⟩:=r;exact ⟨_,.str z t⟩
 | .list ds,v,u,h,r=>by
  simp only [fE] at h
  obtain ⟨a,xs,rfl,q,hs⟩:=h
  cases r
  obtain ⟨its,rv,p,hz⟩:=I.list q
  obtain ⟨as,ra⟩:=dD.reads I hs rv
  obtain ⟨o,h1,h2,n,h3⟩:=p.isList
  exact ⟨_,.list h1 h2 h3 (by simpa using ra)⟩
 | .tuple ds,v,u,h,r=>by
  simp only [fE] at h
  obtain ⟨a,xs,rfl,q,hs⟩:=h
  cases r
  obtain ⟨its,rv,p,hz⟩:=I.tuple q
  obtain ⟨as,ra⟩:=dD.reads I hs rv
  obtain ⟨o,h1,h2,n,h3⟩:=(show s.heap.IsTuple a its.toArray from p)
  exact ⟨_,.tuple h1 h2 h3 (by simpa using ra)⟩
 | .dict _,v,u,h,r=>by simp only [fE] at h
theorem dD.reads {X:Cx} {pins:List (Addr × Obj)} {σ:L2.St} {H:Hp} {s:Shared} (I:L2.Inv X pins σ H s):∀ {ds:List PyData} {vs:List V} {us:List Value},dD X.K H ds vs->Vals vs us->∃ as,ReadsAll s.heap us ds as
 | [],vs,us,h,r=>by simp only [dD] at h;subst h;cases r;exact ⟨_,.nil⟩
 | d :: ds,vs,us,h,r=>by
  simp only [dD] at h
  obtain ⟨v,vs',rfl,h1,h2⟩:=h
  cases r with
  | cons r rr =>
   obtain ⟨as,ra⟩:=fE.reads I h1 r
   obtain ⟨bs,rb⟩:=dD.reads I h2 rr
   exact ⟨_,.cons ra rb⟩
end
def PC (K:PySem.W.Frag) (neg:Bool):R2:=fun x y H Q=>∃ d d',fE K H d x/\fE K H d' y/\d.canLay0=true/\d'.canLay0=true/\min d.depth d'.depth<=64/\Q (.bl (if neg then !PyData.eqv d d' else PyData.eqv d d')) H
theorem T7 {X:Cx} {k:Nat} (hr:cS k X.A):cV X (compareOp .Eq) (PC X.K false):=by
 intro pins s σ H x y v u Q I rx ry h
 obtain ⟨d,d',h1,h2,c1,c2,hd,q⟩:=h
 obtain ⟨as,ra⟩:=h1.reads I rx
 obtain ⟨bs,rb⟩:=h2.reads I ry
 exact SeqAt.compareEq_reads ra rb c1 c2 (by have:=hr.units;omega) ⟨.bl _,H,I,rfl,q⟩
theorem U0 {X:Cx} {k:Nat} (hr:cS k X.A):cV X (compareOp .NotEq) (PC X.K true):=by
 intro pins s σ H x y v u Q I rx ry h
 obtain ⟨d,d',h1,h2,c1,c2,hd,q⟩:=h
 obtain ⟨as,ra⟩:=h1.reads I rx
 obtain ⟨bs,rb⟩:=h2.reads I ry
 exact SeqAt.compareNe_reads ra rb c1 c2 (by have:=hr.units;omega) ⟨.bl _,H,I,rfl,q⟩
mutual
def toD:U->Option PyData
 | .non=>some .none
 | .bl b=>some (.bool b)
 | .int i=>some (.int i)
 | .str z=>some (.str z)
 | .tup us=>(gA us).map .tuple
 | .lst us=>(gA us).map .list
 | .ty _=>none
 | .ref _=>none
 | .dic _ _ _=>none
def gA:List U->Option (List PyData)
 | []=>some []
 | u :: us=>match toD u,gA us with
  | some d,some ds=>some (d :: ds)
  | _,_=>none
end
def q9 (M:aI) (u:U):Option PyData:=match u with
 | .ref a=>match M a with
  | some (.lst us)=>(gA us).map .list
  | _=>none
 | u=>toD u
mutual
theorem Ge {K:PySem.W.Frag} {H:Hp} {M:aI}:∀ {u:U} {v:V} {d:PyData},aY K H M u v->toD u=some d->fE K H d v
 | .non,v,d,r,e=>by simp only [toD,Option.some.injEq] at e;subst e;simp only [fE];exact r.non
 | .bl b,v,d,r,e=>by simp only [toD,Option.some.injEq] at e;subst e;simp only [fE];exact r.bl
 | .int i,v,d,r,e=>by simp only [toD,Option.some.injEq] at e;subst e;simp only [fE];exact r.int
 | .str i,v,d,r,e=>by simp only [toD,Option.some.injEq] at e;subst e;simp only [fE];exact r.str
 | .tup us,v,d,r,e=>by
  simp only [toD] at e
  cases e2:gA us with
  | none=>rw [e2] at e;simp at e
  | some ds =>
   rw [e2] at e;simp at e;subst e
   obtain ⟨a,vs,rfl,q,rs⟩:=r.tup
   simp only [fE]
   exact ⟨a,vs,rfl,q,nQ rs e2⟩
 | .lst us,v,d,r,e=>by
  simp only [toD] at e
  cases e2:gA us with
  | none=>rw [e2] at e;simp at e
  | some ds =>
   rw [e2] at e;simp at e;subst e
   obtain ⟨a,vs,rfl,q,rs⟩:=r.lst
   simp only [fE]
   exact ⟨a,vs,rfl,q,nQ rs e2⟩
 | .ty _,v,d,r,e=>by simp [toD] at e
 | .ref _,v,d,r,e=>by simp [toD] at e
 | .dic _ _ _,v,d,r,e=>by simp [toD] at e
theorem nQ {K:PySem.W.Frag} {H:Hp} {M:aI}:∀ {us:List U} {vs:List V} {ds:List PyData},aS K H M us vs->gA us=some ds->dD K H ds vs
 | [],vs,ds,r,e=>by simp only [gA,Option.some.injEq] at e;subst e;simp only [dD];exact r.inv_nil
 | u :: us,vs,ds,r,e=>by
  obtain ⟨v,vs',rfl,a,b⟩:=r.inv_cons
  simp only [gA] at e
  cases e1:toD u with
  | none=>rw [e1] at e;simp at e
  | some d =>
   cases e2:gA us with
   | none=>rw [e1,e2] at e;simp at e
   | some ds' =>
    rw [e1,e2] at e;simp at e;subst e
    simp only [dD]
    exact ⟨v,vs',rfl,Ge a e1,nQ b e2⟩
end
theorem vZ {K:PySem.W.Frag} {H:Hp} {M:aI} {u:U} {v:V} {d:PyData} (rm:RelM K H M) (r:aY K H M u v) (e:q9 M u=some d):fE K H d v:=by
 cases u with
 | ref a =>
  simp only [q9] at e
  split at e
  ·rename_i us hM
   cases e2:gA us with
   | none=>rw [e2] at e;simp at e
   | some ds =>
    rw [e2] at e;simp at e;subst e
    obtain ⟨vs,h1,rs⟩:=rm a _ hM
    cases r.ref
    simp only [fE]
    exact ⟨a,vs,rfl,.inl (.inl h1),nQ rs e2⟩
  ·cases e
 | _=>exact Ge r (by simpa only [q9] using e)
def JV (neg:Bool):dU:=fun x y M Q=>∃ d d',q9 M x=some d/\q9 M y=some d'/\d.canLay0=true/\d'.canLay0=true/\min d.depth d'.depth<=64/\Q (.bl (if neg then !PyData.eqv d d' else PyData.eqv d d')) M
theorem Gj {K:PySem.W.Frag} {neg:Bool}:dO K (PC K neg) (JV neg):=fun x y u w H M Q' rm ru rw h Q c=>by
 obtain ⟨d,d',e1,e2,c1,c2,hd,q⟩:=h
 exact ⟨d,d',vZ rm ru e1,vZ rm rw e2,c1,c2,hd,c.here rm cL q⟩
variable {D:Dat}
def gU:U->Bool
 | .non=>true
 | .bl _=>true
 | .int _=>true
 | .str _=>true
 | _=>false
def nP:U->U->Bool
 | .non,.non=>true
 | .bl a,.bl b=>a == b
 | .bl a,.int j=>(if a then 1 else 0) == j
 | .int i,.bl b=>i == (if b then 1 else 0)
 | .int i,.int j=>i == j
 | .str x,.str y=>x == y
 | _,_=>false
def items (M:aI):U->Option (List U)
 | .tup us=>some us
 | .lst us=>some us
 | .ref a=>match M a with
  | some (.lst us)=>some us
  | _=>none
 | _=>none
def sT (neg:Bool):dU:=fun x y M Q=>match items M y with
 | some us=>gU x=true/\us.all gU=true/\Q (.bl (if neg then !us.any (fun u=>nP u x) else us.any (fun u=>nP u x))) M
 | none=>False
theorem vT {K:PySem.W.Frag} {H:Hp} {M:aI} {u:U} {v:V} (r:aY K H M u v) (f:gU u=true):hG v=true:=by
 cases u with
 | non=>cases r.non;rfl
 | bl b=>cases r.bl;rfl
 | int b=>cases r.int;rfl
 | str b=>cases r.str;rfl
 | _=>exact absurd (show false=true from f) Bool.false_ne_true
theorem Rb {K:PySem.W.Frag} {H:Hp} {M:aI} {u w:U} {v x:V} (r:aY K H M u v) (r':aY K H M w x) (f:gU u=true) (f':gU w=true):wM v x=nP u w:=by
 cases u <;> (first | (cases r.non) | (cases r.bl) | (cases r.int) | (cases r.str) | exact absurd (show false=true from f) Bool.false_ne_true) <;> cases w <;>
  (first | (cases r'.non) | (cases r'.bl) | (cases r'.int) | (cases r'.str) | exact absurd (show false=true from f') Bool.false_ne_true) <;> rfl
theorem sL {K:PySem.W.Frag} {H:Hp} {M:aI}:∀ {us:List U} {vs:List V},aS K H M us vs->us.all gU=true->vs.all hG=true
 | [],vs,r,_=>by cases r.inv_nil;rfl
 | u :: us,vs,r,f=>by
  obtain ⟨v,vs',rfl,a,b⟩:=r.inv_cons
  rw [List.all_cons,Bool.and_eq_true] at f ⊢
  exact ⟨vT a f.1,sL b f.2⟩
theorem yV {K:PySem.W.Frag} {H:Hp} {M:aI} {w:U} {x:V} (r':aY K H M w x) (f':gU w=true):∀ {us:List U} {vs:List V},aS K H M us vs->us.all gU=true->Qf x vs=us.any fun u=>nP u w
 | [],vs,r,_=>by cases r.inv_nil;rfl
 | u :: us,vs,r,f=>by
  obtain ⟨v,vs',rfl,a,b⟩:=r.inv_cons
  rw [List.all_cons,Bool.and_eq_true] at f
  have:=yV r' f' b f.2
  unfold Qf at this ⊢
  rw [List.any_cons,List.any_cons,this,Rb a r' f.1 f']
theorem Am {K:PySem.W.Frag} {H:Hp} {M:aI} {u:U} {v:V} {us:List U} (rm:RelM K H M) (r:aY K H M u v) (e:items M u=some us):∃ p xs,v=.ref p/\(dM K H p xs\/fA K H p xs)/\aS K H M us xs:=by
 cases u with
 | tup us'=>cases e;obtain ⟨a,vs,rfl,q,rs⟩:=r.tup;exact ⟨a,vs,rfl,.inr q,rs⟩
 | lst us'=>cases e;obtain ⟨a,vs,rfl,q,rs⟩:=r.lst;exact ⟨a,vs,rfl,.inl q,rs⟩
 | ref a =>
  simp only [items] at e
  split at e
  ·rename_i us' hM
   cases e
   obtain ⟨vs,h1,rs⟩:=rm a _ hM
   exact ⟨a,vs,r.ref,.inl (.inl (.inl h1)),rs⟩
  ·cases e
 | _=>cases e
theorem NG {K:PySem.W.Frag} {neg:Bool}:dO K (Qs K neg) (sT neg):=fun x y u w H M Q' rm ru rw h Q c=>by
 unfold sT at h
 split at h
 ·rename_i us e
  obtain ⟨f,fs,q⟩:=h
  obtain ⟨p,xs,rfl,hs,rs⟩:=Am rm rw e
  refine ⟨p,xs,rfl,hs,vT ru f,sL rs fs,?_⟩
  rw [yV ru f rs fs]
  exact c.here rm cL q
 ·exact h.elim
theorem Te:lG D .In (sT false):=⟨⟨_,fun X h=>h.K ▸ Nu,NG⟩⟩
theorem y6:lG D .NotIn (sT true):=⟨⟨_,fun X h=>h.K ▸ sH,NG⟩⟩
def jX (neg:Bool):dU:=fun x y M Q=>match zO x y with
 | some b=>Q (.bl (if neg then !b else b)) M
 | none=>JV neg x y M Q
theorem cM:lG D .Eq (jX false):=⟨⟨_,fun X h=>h.K ▸ VW.or (T7 h.room),fun x y u w H M Q' rm ru rw h Q c=>by
 unfold jX at h
 split at h
 ·rename_i b e
  obtain ⟨h1,h2⟩:=GU ru rw e
  exact .inl ⟨h1,c.here rm (by rw [h2];exact cL) h⟩
 ·exact .inr (Gj x y u w H M Q' rm ru rw h Q c)⟩⟩
theorem uO:lG D .NotEq (jX true):=⟨⟨_,fun X h=>h.K ▸ VE.or (U0 h.room),fun x y u w H M Q' rm ru rw h Q c=>by
 unfold jX at h
 split at h
 ·rename_i b e
  obtain ⟨h1,h2⟩:=GU ru rw e
  exact .inl ⟨h1,c.here rm (by rw [h2];exact cL) h⟩
 ·exact .inr (Gj x y u w H M Q' rm ru rw h Q c)⟩⟩
end U2
namespace U2
open PySem PySem.Spec PyProof.Rows L2
structure Zp (z TI TO i1 i2:Addr) (f1 f2:List Addr):Prop where
 TIz:TI≠z
 TOz:TO≠z
 i1z:i1≠z
 i2z:i2≠z
 TITO:TI≠TO
 TIi1:TI≠i1
 TIi2:TI≠i2
 TOi1:TO≠i1
 TOi2:TO≠i2
 i12:i1≠i2
 zf1:z ∉ f1
 zf2:z ∉ f2
 Tf1:TO ∉ f1
 Tf2:TO ∉ f2
 if2:i1 ∉ f2
 if1:i2 ∉ f1
theorem Draws.same {prog:Program} {w:World} {A:Around} {it:Addr} {fp:List Addr} {n:Nat} {P:Nat->Value->Prop} {St:Nat->Heap->Prop} (D:Draws prog w A it fp n P St) {i:Nat} {h h':Heap} {c:Addr} (st:St i h) (sb:Heap.ExtBut c h h') (hc:c ∉ fp):St i h' :=
 D.frame _ _ _ st fun b hb o e=>sb b o (fun q=>hc (q ▸ hb)) e
section
variable {prog:Program} {w:World} {A:Around} {E:Value->Shared->Prop} {s:Shared} {z TI TO i1 i2:Addr} {f1 f2:List Addr} {n1 n2:Nat} {P1 P2:Nat->Value->Prop} {S1 S2:Nat->Heap->Prop} {i:Nat} {a b:Value}
theorem Pl (Z:Zp z TI TO i1 i2 f1 f2) (D1:Draws prog w A i1 f1 n1 P1 S1) (D2:Draws prog w A i2 f2 n2 P2 S2) {Q:Value->Shared->Prop}
  (hz:IsZip s.heap z TI TO .none) (hTI:IsPair s.heap TI (.ref i1) (.ref i2)) (hTO:IsPair s.heap TO a b) (h1:S1 i s.heap) (h2:S2 i s.heap) (l1:i < n1) (l2:i < n2)
  (hQ:∀ x y h' tk,P1 i x->P2 i y->IsZip h' z TI TO (rawInt s.heap.objs.size)->IsPair h' TO x y->S1 (i + 1) h'->S2 (i + 1) h'->IsPair h' s.heap.objs.size x y ->
   (∀ c o,c≠z->c≠TO->c≠i1->c≠i2->s.heap.get? c=some o->h'.get? c=some o)->Q (.ref s.heap.objs.size) { s with heap:=h',toks:=tk }) :
  wpAny (model prog w) A (Builtin.«zip.__next__» ⟨[.ref z],[]⟩) (fun fin s'=>∃ v,fin=.done (.ret v)/\Q v s') E s:=by
 show wpAny _ _ (field (.ref z) 2 >>= _) _ _ _
 refine wpAny_bind (wpAny_field hz rfl (x:=.bool false) rfl ?_)
 show wpAny _ _ (field (.ref z) 3 >>= _) _ _ _
 refine wpAny_bind (wpAny_field hz rfl (x:=.ref TI) rfl ?_)
 refine wpAny_bind (wpAny_seqItems hTI rfl ?_)
 show wpAny _ _ (Builtin.SmallTypes.ownedTupleIsFree (.ref z) >>= _) _ _ _
 refine wpAny_bind ?_
 unfold Builtin.SmallTypes.ownedTupleIsFree
 refine wpAny_bind (wpAny_field hz rfl (x:=.none) rfl (wpAny_pure ?_))
 simp only [if_true]
 refine wpAny_bind (wpAny_rule ?_)
 refine wpAny_bind (wpAny_field hz rfl (x:=.ref TO) rfl ?_)
 refine wpAny_bind (wpAny_setField_rec hz (by simp) fun g1 hz1 hs1=>?_)
 replace hz1:IsZip g1 z TI TO .ellipsis:=hz1
 refine wpAny_bind ?_
 simp only [List.zipIdx_cons,List.zipIdx_nil,List.forIn_cons,List.forIn_nil]
 refine wpAny_bind (wpAny_bind (wpAny_onRaise ?_))
 show wpAny _ _ (Builtin.SmallTypes.nextOf (.ref i1) >>= _) _ _ _
 refine wpAny_bind (D1.item i _ _ _ l1 (Draws.same D1 h1 hs1.extBut Z.zf1) fun x g2 tk2 px j0 hs2=>wpAny_pure ?_)
 have hTO2:IsPair g2 TO a b:=hs2.extBut _ _ Z.TOi1 (hs1.extBut _ _ Z.TOz hTO)
 refine wpAny_bind (wpAny_seqItems hTO2 rfl ?_)
 refine wpAny_bind (wpAny_updateSeq_pair hTO2 fun g3 hTO3 hs3=>?_)
 replace hTO3:IsPair g3 TO x b:=hTO3
 refine wpAny_bind (wpAny_letGo (wpAny_pure ?_))
 refine wpAny_bind (wpAny_bind (wpAny_onRaise ?_))
 show wpAny _ _ (Builtin.SmallTypes.nextOf (.ref i2) >>= _) _ _ _
 refine wpAny_bind (D2.item i _ _ _ l2 (Draws.same D2 (Draws.same D2 (Draws.same D2 h2 hs1.extBut Z.zf2) hs2.extBut Z.if2) hs3.extBut Z.Tf2) fun y g4 tk4 py st4 hs4=>wpAny_pure ?_)
 have hTO4:IsPair g4 TO x b:=hs4.extBut _ _ Z.TOi2 hTO3
 refine wpAny_bind (wpAny_seqItems hTO4 rfl ?_)
 refine wpAny_bind (wpAny_updateSeq_pair hTO4 fun g5 hTO5 hs5=>?_)
 replace hTO5:IsPair g5 TO x y:=hTO5
 refine wpAny_bind (wpAny_letGo (wpAny_pure (wpAny_pure ?_)))
 refine wpAny_bind (wpAny_seqItems hTO5 rfl ?_)
 refine wpAny_bind (wpAny_newTuple ?_)
 have hsz:g5.objs.size=s.heap.objs.size:=by rw [hs5.1,hs4.1,hs3.1,hs2.1,hs1.1]
 have hz5:IsZip g5 z TI TO .ellipsis:=hs5.extBut _ _ Z.TOz.symm (hs4.extBut _ _ Z.i2z.symm (hs3.extBut _ _ Z.TOz.symm (hs2.extBut _ _ Z.i1z.symm hz1)))
 have hk5:∀ c o,c≠z->c≠TO->c≠i1->c≠i2->s.heap.get? c=some o->g5.get? c=some o:=fun c o c1 c2 c3 c4 e =>
  hs5.extBut _ _ c2 (hs4.extBut _ _ c4 (hs3.extBut _ _ c2 (hs2.extBut _ _ c3 (hs1.extBut _ _ c1 e))))
 have h15:S1 (i + 1) g5:=Draws.same D1 (Draws.same D1 (Draws.same D1 j0 hs3.extBut Z.Tf1) hs4.extBut Z.if1) hs5.extBut Z.Tf1
 have h25:S2 (i + 1) g5:=Draws.same D2 st4 hs5.extBut Z.Tf2
 have hzlt:z < g5.objs.size:=Heap.lt_size hz5
 show wpAny _ _ (Builtin.SmallTypes.ownedTupleHandOut (.ref z) (.ref g5.objs.size) >>= _) _ _ _
 refine wpAny_bind ?_
 unfold Builtin.SmallTypes.ownedTupleHandOut
 have hz6:IsZip (g5.push { cls:=.type "tuple",data:=.seq #[x,y] }) z TI TO .ellipsis:=Heap.get?_push_of_some _ hz5
 refine wpAny_bind (wpAny_setField_rec hz6 (by simp) fun g7 hz7 hs7=>?_)
 replace hz7:IsZip g7 z TI TO (rawInt g5.objs.size):=hz7
 refine wpAny_setField_rec hz7 (by simp) fun g8 hz8 hs8=>?_
 replace hz8:IsZip g8 z TI TO (rawInt g5.objs.size):=hz8
 have up:∀ c o,c≠z->g5.get? c=some o->g8.get? c=some o:=fun c o c1 e=>hs8.extBut _ _ c1 (hs7.extBut _ _ c1 (Heap.get?_push_of_some _ e))
 have hT8:IsPair g8 g5.objs.size x y:=hs8.extBut _ _ (Nat.ne_of_gt hzlt) (hs7.extBut _ _ (Nat.ne_of_gt hzlt) (Heap.get?_push_size _ rfl))
 rw [hsz] at hz8 hT8
 refine wpAny_pure ⟨_,rfl,?_⟩
 show Q (.ref g5.objs.size) _
 rw [hsz]
 exact hQ x y g8 _ px py hz8 (up _ _ Z.TOz hTO5) (D1.frame _ _ _ h15 fun b hb o e=>up b o (fun q=>Z.zf1 (q ▸ hb)) e) (D2.frame _ _ _ h25 fun b hb o e=>up b o (fun q=>Z.zf2 (q ▸ hb)) e) hT8 fun c o c1 c2 c3 c4 e=>up c o c1 (hk5 c o c1 c2 c3 c4 e)
theorem Rl (Z:Zp z TI TO i1 i2 f1 f2) (D1:Draws prog w A i1 f1 n1 P1 S1) (D2:Draws prog w A i2 f2 n2 P2 S2) {Q:Fin->Shared->Prop}
  (hz:IsZip s.heap z TI TO .none) (hTI:IsPair s.heap TI (.ref i1) (.ref i2)) (hTO:IsPair s.heap TO a b) (h1:S1 i s.heap) (h2:S2 i s.heap) (l1:i<=n1) (hi:i=min n1 n2)
  (hE:∀ h' e tk,(∀ c o,c≠z->c≠TO->c≠i1->c≠i2->s.heap.get? c=some o->h'.get? c=some o)->(∃ o,h'.get? e=some o/\o.cls=.type "StopIteration")->E (.ref e) { s with heap:=h',toks:=tk }) :
  wpAny (model prog w) A (Builtin.«zip.__next__» ⟨[.ref z],[]⟩) Q E s:=by
 show wpAny _ _ (field (.ref z) 2 >>= _) _ _ _
 refine wpAny_bind (wpAny_field hz rfl (x:=.bool false) rfl ?_)
 show wpAny _ _ (field (.ref z) 3 >>= _) _ _ _
 refine wpAny_bind (wpAny_field hz rfl (x:=.ref TI) rfl ?_)
 refine wpAny_bind (wpAny_seqItems hTI rfl ?_)
 show wpAny _ _ (Builtin.SmallTypes.ownedTupleIsFree (.ref z) >>= _) _ _ _
 refine wpAny_bind ?_
 unfold Builtin.SmallTypes.ownedTupleIsFree
 refine wpAny_bind (wpAny_field hz rfl (x:=.none) rfl (wpAny_pure ?_))
 simp only [if_true]
 refine wpAny_bind (wpAny_rule ?_)
 refine wpAny_bind (wpAny_field hz rfl (x:=.ref TO) rfl ?_)
 refine wpAny_bind (wpAny_setField_rec hz (by simp) fun g1 hz1 hs1=>?_)
 replace hz1:IsZip g1 z TI TO .ellipsis:=hz1
 refine wpAny_bind ?_
 simp only [List.zipIdx_cons,List.zipIdx_nil,List.forIn_cons,List.forIn_nil]
 refine wpAny_bind (wpAny_bind (wpAny_onRaise ?_))
 show wpAny _ _ (Builtin.SmallTypes.nextOf (.ref i1) >>= _) _ _ _
 have hA:S1 i g1:=Draws.same D1 h1 hs1.extBut Z.zf1
 by_cases hlt:i < n1
 ·have hn2:i=n2:=by omega
  refine wpAny_bind (D1.item i _ _ _ hlt hA fun x g2 tk2 px j0 hs2=>wpAny_pure ?_)
  have hTO2:IsPair g2 TO a b:=hs2.extBut _ _ Z.TOi1 (hs1.extBut _ _ Z.TOz hTO)
  refine wpAny_bind (wpAny_seqItems hTO2 rfl ?_)
  refine wpAny_bind (wpAny_updateSeq_pair hTO2 fun g3 hTO3 hs3=>?_)
  refine wpAny_bind (wpAny_letGo (wpAny_pure ?_))
  refine wpAny_bind (wpAny_bind (wpAny_onRaise ?_))
  show wpAny _ _ (Builtin.SmallTypes.nextOf (.ref i2) >>= _) _ _ _
  refine wpAny_bind (D2.done _ _ _ (hn2 ▸ Draws.same D2 (Draws.same D2 (Draws.same D2 h2 hs1.extBut Z.zf2) hs2.extBut Z.if2) hs3.extBut Z.Tf2) fun g4 e hs4 he=>?_)
  obtain ⟨oe,hoe,hce⟩:=he
  have hz4:IsZip g4 z TI TO .ellipsis:=hs4 _ _ Z.i2z.symm (hs3.extBut _ _ Z.TOz.symm (hs2.extBut _ _ Z.i1z.symm hz1))
  have hez:e≠z:=fun x=>by subst x;rw [hz4] at hoe;cases hoe;simp at hce
  exact wpAny_setField_rec hz4 (by simp) fun g5 _ hs5=>hE g5 e _ (fun c o c1 c2 c3 c4 x=>hs5.extBut _ _ c1 (hs4 _ _ c4 (hs3.extBut _ _ c2 (hs2.extBut _ _ c3 (hs1.extBut _ _ c1 x))))) ⟨oe,hs5.extBut _ _ hez hoe,hce⟩
 ·have hn1:i=n1:=by omega
  refine wpAny_bind (D1.done _ _ _ (hn1 ▸ hA) fun g2 e hs2 he=>?_)
  obtain ⟨oe,hoe,hce⟩:=he
  have hz2:IsZip g2 z TI TO .ellipsis:=hs2 _ _ Z.i1z.symm hz1
  have hez:e≠z:=fun x=>by subst x;rw [hz2] at hoe;cases hoe;simp at hce
  exact wpAny_setField_rec hz2 (by simp) fun g3 _ hs3=>hE g3 e _ (fun c o c1 _ c3 _ x=>hs3.extBut _ _ c1 (hs2 _ _ c3 (hs1.extBut _ _ c1 x))) ⟨oe,hs3.extBut _ _ hez hoe,hce⟩
theorem Az (Z:Zp z TI TO i1 i2 f1 f2) (D1:Draws prog w A.in1 i1 f1 n1 P1 S1) (D2:Draws prog w A.in1 i2 f2 n2 P2 S2) {Q:Option Value->Shared->Prop}
  (hz:IsZip s.heap z TI TO .none) (hTI:IsPair s.heap TI (.ref i1) (.ref i2)) (hTO:IsPair s.heap TO a b) (h1:S1 i s.heap) (h2:S2 i s.heap) (l1:i < n1) (l2:i < n2)
  (hQ:∀ x y h' tk,P1 i x->P2 i y->IsZip h' z TI TO (rawInt s.heap.objs.size)->IsPair h' TO x y->S1 (i + 1) h'->S2 (i + 1) h'->IsPair h' s.heap.objs.size x y ->
   (∀ c o,c≠z->c≠TO->c≠i1->c≠i2->s.heap.get? c=some o->h'.get? c=some o)->Q (some (.ref s.heap.objs.size)) { s with heap:=h',toks:=tk }) :
  wpAny (model prog w) A (pyNext (.ref z)) Q E s:=by
 have hT:s.TypeIs (.ref z) "zip":=⟨_,hz,rfl⟩
 unfold pyNext
 exact wpAny_bind (wpAny_attempt (wpAny_callSpecial?_slot (name:=Str.ofString "__next__") hT PySem.F.slot_zip_next
  (wpAny_call_entry PySem.F.slot_zip_next hT PySem.F.entry_zip_next
   (Pl Z D1 D2 hz hTI hTO h1 h2 l1 l2 fun x y h' tk a1 a2 a3 a4 a5 a6 a7 a8=>wpAny_pure (hQ x y h' tk a1 a2 a3 a4 a5 a6 a7 a8)) (PySem.F.args_zip_next_1 _))))
theorem C2 (Z:Zp z TI TO i1 i2 f1 f2) (D1:Draws prog w A.in1 i1 f1 n1 P1 S1) (D2:Draws prog w A.in1 i2 f2 n2 P2 S2) {Q:Option Value->Shared->Prop}
  (hz:IsZip s.heap z TI TO .none) (hTI:IsPair s.heap TI (.ref i1) (.ref i2)) (hTO:IsPair s.heap TO a b) (h1:S1 i s.heap) (h2:S2 i s.heap) (l1:i<=n1) (hi:i=min n1 n2)
  (hQ:∀ h' tk,(∀ c o,c≠z->c≠TO->c≠i1->c≠i2->s.heap.get? c=some o->h'.get? c=some o)->Q none { s with heap:=h',toks:=tk }):wpAny (model prog w) A (pyNext (.ref z)) Q E s:=by
 have hT:s.TypeIs (.ref z) "zip":=⟨_,hz,rfl⟩
 unfold pyNext
 refine wpAny_bind (wpAny_attempt (wpAny_callSpecial?_slot (name:=Str.ofString "__next__") hT PySem.F.slot_zip_next
  (wpAny_call_entry PySem.F.slot_zip_next hT PySem.F.entry_zip_next (Rl Z D1 D2 hz hTI hTO h1 h2 l1 hi fun h' e tk hk he=>?_) (PySem.F.args_zip_next_1 _))))
 obtain ⟨o,ho,hc⟩:=he
 refine wpAny_bind (wpAny_isInstance (T:="StopIteration") (b:=true) ⟨o,ho,hc⟩ isSubtype_stop ?_)
 exact wpAny_pure (hQ _ _ hk)
end
theorem VP {f g:Bool} {h:Heap} {z TI TO i1 i2 a c:Addr} {f0 u v:Value} {k1 k2:Nat} {xs ys:Array Value} (hz:IsZip h z TI TO f0) (q:TI≠TO/\i1≠i2/\TO≠a/\TO≠c) (hTI:IsPair h TI (.ref i1) (.ref i2)) (hTO:IsPair h TO u v)
  (h1:mK f h i1 a k1) (h2:mK g h i2 c k2) (ha:jV f h a xs) (hc:jV g h c ys):Zp z TI TO i1 i2 [i1,a] [i2,c]:=by
 have iz:=fun {r:Bool} {i x:Addr} {k:Nat} (p:mK r h i x k)=>let ⟨_,e,c,_⟩:=p.obj;j7 e hz c rfl (by cases r <;> decide)
 have az:=fun {r:Bool} {x:Addr} {xs:Array Value} (p:jV r h x xs)=>let ⟨_,_,e,c,_⟩:=p.obj;j7 e hz c rfl (by cases r <;> decide)
 have ti:=fun {r:Bool} {i x t:Addr} {u v:Value} {k:Nat} (w:IsPair h t u v) (p:mK r h i x k)=>let ⟨_,e,c,_⟩:=p.obj;j7 w e rfl c (by cases r <;> decide)
 refine ⟨j7 hTI hz rfl rfl (by decide),j7 hTO hz rfl rfl (by decide),iz h1,iz h2,q.1,ti hTI h1,ti hTI h2,ti hTO h1,ti hTO h2,q.2.1,?_,?_,?_,?_,?_,?_⟩ <;> simp only [List.mem_cons,List.not_mem_nil,or_false,not_or]
 ·exact ⟨(iz h1).symm,(az ha).symm⟩
 ·exact ⟨(iz h2).symm,(az hc).symm⟩
 ·exact ⟨ti hTO h1,q.2.2.1⟩
 ·exact ⟨ti hTO h2,q.2.2.2⟩
 ·exact ⟨q.2.1,(hc.ne h1).symm⟩
 ·exact ⟨q.2.1.symm,(ha.ne h2).symm⟩
abbrev Qh (f:Bool) (h:Heap) (a:Addr):Heap:=h.push { cls:=.type (rZ f),data:=.fields #[.ref a,.int 0 0] }
abbrev Qw (f g:Bool) (h:Heap) (a c:Addr):Heap:=(Qh f h a).push { cls:=.type (rZ g),data:=.fields #[.ref c,.int 0 0] }
abbrev Ql (f g:Bool) (h:Heap) (a c:Addr):Heap:=(Qw f g h a c).push { cls:=.type "tuple",data:=.seq #[.ref h.objs.size,.ref (Qh f h a).objs.size] }
abbrev P8 (f g:Bool) (h:Heap) (a c:Addr):Heap:=(Ql f g h a c).push { cls:=.type "tuple",data:=.seq #[.none,.none] }
abbrev GF (f g:Bool) (h:Heap) (a c:Addr):Heap:=(P8 f g h a c).push { cls:=.type "zip",data:=.fields #[.none,.bool false,.bool false,.ref (Qw f g h a c).objs.size,.ref (Ql f g h a c).objs.size] }
theorem jV.push {f:Bool} {h:Heap} {a:Addr} {xs:Array Value} (p:jV f h a xs) (o:Obj):jV f (h.push o) a xs:=by
 obtain ⟨o',n,e,c,d⟩:=p.obj
 cases f <;> exact ⟨o',Heap.get?_push_of_some _ e,c,n,d⟩
theorem Nx {prog:Program} {w:World} {A:Around} {E:Value->Shared->Prop} {s:Shared} {f:Bool} {l:Addr} {items:Array Value} {Q:Value->Shared->Prop} (hl:jV f s.heap l items)
  (hQ:Q (.ref s.heap.objs.size) { s with heap:=s.heap.push { cls:=.type (rZ f),data:=.fields #[.ref l,.int 0 0] } }):wpAny (model prog w) A (pyIter (.ref l)) Q E s:=by
 cases f
 ·exact wpAny_pyIter_tuple hl hQ
 ·exact wpAny_pyIter_list hl hQ
theorem G8 (f g:Bool) (a c:Addr) (xs ys:Array Value) :
  Meets (Builtin.«zip.__new__» ⟨[.type "zip",.ref a,.ref c],[]⟩) (fun _ R s=>jV f s.heap a xs/\jV g s.heap c ys /\
   R (.ok (.ret (.ref (P8 f g s.heap a c).objs.size))) { s with heap:=GF f g s.heap a c }) :=
 .of_wp fun prog w A R s h=>by
  obtain ⟨hp,g',d,tk,os⟩:=s;obtain ⟨h1,h2,h⟩:=h
  have hsub:=sub_zip
  have hL1:jV f (Shared.heap ⟨hp,g',d,tk,os⟩) a xs:=h1
  have hL2:jV g (Shared.heap ⟨hp.push { cls:=.type (rZ f),data:=.fields #[.ref a,.int 0 0] },g',d,tk,os⟩) c ys:=h2.push _
  wp_walk using Nx hL1,Nx hL2
  exact ⟨_,rfl,h⟩
theorem LB {f g:Bool} {prog:Program} {w:World} {A:Around} {E:Value->Shared->Prop} {s:Shared} {a c:Addr} {xs ys:Array Value} {Q:Value->Shared->Prop} (h1:jV f s.heap a xs) (h2:jV g s.heap c ys)
  (h:∀ h',IsZip h' (s.heap.objs.size + 4) (s.heap.objs.size + 2) (s.heap.objs.size + 3) .none->IsPair h' (s.heap.objs.size + 2) (.ref s.heap.objs.size) (.ref (s.heap.objs.size + 1)) ->
   IsPair h' (s.heap.objs.size + 3) .none .none->mK f h' s.heap.objs.size a 0->mK g h' (s.heap.objs.size + 1) c 0 ->
   (∀ b o,s.heap.get? b=some o->h'.get? b=some o)->Q (.ref (s.heap.objs.size + 4)) { s with heap:=h' }) :
  wpAny (model prog w) A (call (.type "zip") [.ref a,.ref c]) Q E s:=by
 refine callType_new PySem.F.called_zip (by decide) (PySem.F.typeCall_zip_2 _ _) (PySem.F.newCall_zip_2 _ _) (fun obj=>PySem.F.args_object_init_3 obj _ _) PySem.F.entry_zip_new
  (G8 f g a c xs ys) ⟨h1,h2,?_⟩
 have z1:(Qh f s.heap a).objs.size=s.heap.objs.size + 1:=Heap.size_push ..
 have z2:(Qw f g s.heap a c).objs.size=s.heap.objs.size + 2:=by rw [Heap.size_push,z1]
 have z3:(Ql f g s.heap a c).objs.size=s.heap.objs.size + 3:=by rw [Heap.size_push,z2]
 have z4:(P8 f g s.heap a c).objs.size=s.heap.objs.size + 4:=by rw [Heap.size_push,z3]
 have g5:(GF f g s.heap a c).get? (P8 f g s.heap a c).objs.size=some _:=Heap.get?_push_size _ rfl
 have g4:(GF f g s.heap a c).get? (Ql f g s.heap a c).objs.size=some _:=Heap.get?_push_of_some _ (Heap.get?_push_size _ rfl)
 have g3:(GF f g s.heap a c).get? (Qw f g s.heap a c).objs.size=some _:=Heap.get?_push_of_some _ (Heap.get?_push_of_some _ (Heap.get?_push_size _ rfl))
 have g2:(GF f g s.heap a c).get? (Qh f s.heap a).objs.size=some _:=Heap.get?_push_of_some _ (Heap.get?_push_of_some _ (Heap.get?_push_of_some _ (Heap.get?_push_size _ rfl)))
 have g1:(GF f g s.heap a c).get? s.heap.objs.size=some _:=Heap.get?_push_of_some _ (Heap.get?_push_of_some _ (Heap.get?_push_of_some _ (Heap.get?_push_of_some _ (Heap.get?_push_size _ rfl))))
 show _/\_
 rw [z2,z3,z4] at g5
 rw [z1,z2] at g3
 rw [z3] at g4
 rw [z1] at g2
 rw [z4]
 exact ⟨⟨_,g5,rfl⟩,h _ g5 g3 g4 (.of g1 rfl rfl) (.of g2 rfl rfl) fun b o x =>
  Heap.get?_push_of_some _ (Heap.get?_push_of_some _ (Heap.get?_push_of_some _ (Heap.get?_push_of_some _ (Heap.get?_push_of_some _ x))))⟩
def gN:List U->List U->List U
 | u :: us,w :: ws=>.tup [u,w] :: gN us ws
 | _,_=>[]
theorem wH:∀ us ws:List U,(gN us ws).length=min us.length ws.length
 | [],ws=>by simp [gN]
 | _ :: _,[]=>by simp [gN]
 | u :: us,w :: ws=>by simp only [gN,List.length_cons,wH us ws];omega
def vY (ta:UA):UI:=fun τ M R=>ta τ M fun us M1=>match us with
 | [.tup us,.tup ws]=>R ⟨none,gN us ws⟩ M1
 | _=>False
end U2
namespace U2
open PySem PySem.Spec PyProof.Rows L2
theorem AD (l:Addr) (items:Array Value) (n:Nat) (b:Addr) (items2:Array Value) (n2:Nat) (dd:Option Addr) (sl:Array (Option Value)) (hc0:¬(!items.isEmpty && Builtin.List.listTooLong (items.size + items2.size))=true) (hc1:items.size<=sizeLine) (hs2:items.size + items2.size<=sizeLine + 1) :
  Meets (Builtin.«list.extend» ⟨[.ref l,.ref b],[]⟩) (fun _ R s=>s.heap.get? l=some { cls:=.type "list",dict:=none,data:=.seq items n,slots:=#[] }/\s.heap.get? b=some { cls:=.type "list",dict:=dd,data:=.seq items2 n2,slots:=sl }/\R (.ok (.ret Value.none)) { s with heap:=s.heap.update l (Obj.mapSeq fun x=>x++items2),toks:=s.toks }) :=
 .of_wp fun prog w A R s h=>by
  obtain ⟨hp,g,d,tk,os⟩:=s;obtain ⟨hl,hb,h⟩:=h
  have f1:=PySem.AutoSeq1.idx_int;have f2:=PySem.AutoSeq1.sub_tuple_tuple;have f3:=PySem.AutoSeq1.sub_list_list;have f4:=PySem.AutoSeq1.sub_tuple_list;have f5:=PySem.AutoSeq1.sub_list_tuple
  have hz':(items++items2).size<=sizeLine + 1:=by rw [Array.size_append];exact hs2
  wp_walk using (wpAny_updateSeq hl rfl (hz:=hc1) (_hz':=hz')),wpAny_loadPart' hl,wpAny_loadPart' hb
  exact ⟨_,rfl,h⟩
theorem Ko {X:Cx}:Vp X "list.extend" (Cq X.K):=by
 intro pins s σ H x vs v us Q I rx rv h
 obtain ⟨l,b,xs,zs,rfl,rfl,hH,hB,hz,q⟩:=h
 cases rx
 obtain ⟨u,rfl,ru⟩:=rv.one
 cases ru
 obtain ⟨z,its,n,r,hl,e⟩:=I.lstM hH
 obtain ⟨its2,r2,⟨⟨oc,od,odt,osl⟩,n2,e2,hc,hd,hdt⟩,hl2⟩:=I.list hB
 have hc':oc=.type "list":=hc
 have hdt':odt=.seq its2.toArray n2:=hdt
 subst hc' hdt'
 have l2:=r2.length
 have hsz:its.toArray.size + its2.toArray.size<=sizeLine:=by rw [List.size_toArray,List.size_toArray];omega
 have hlong:¬ (!its.toArray.isEmpty && Builtin.List.listTooLong (its.toArray.size + its2.toArray.size))=true:=by
  rw [Cy hsz,Bool.and_false]
  exact Bool.false_ne_true
 refine call_meets PySem.F.slot_list_extend ⟨_,e,rfl⟩ PySem.F.entry_list_extend (PySem.F.args_list_extend_2 _ _)
  (AD l its.toArray n b its2.toArray n2 od osl hlong (by rw [List.size_toArray];omega) (by omega)) ⟨e,e2,?_⟩
 refine ⟨.non,_,I.lset (its':=its++its2) hH e (by simp) (r.append r2) ?_,rfl,q⟩
 rw [List.length_append]
 omega
variable {D:Dat} {o e:Expr} {ta:UE} {tas:UA} {pos:Pos}
theorem MC {apos:Pos} (ho:bG D o ta) (ha:mM D [e] tas) (hbase:∀ env,attributeBase o "extend" env (eval o env)=eval o env:=by intro _;rfl)
  (hfew:∀ env,((backTo pos (starEach [e] env)).all (fun x=>!x.1) && (backToKw pos (keywordEach [] env)).all (fun x=>x.1.isSome) && decide ([e].length + ([]:List Keyword).length + (if ([]:List Keyword).isEmpty then 0 else 1) < 30))=true:=by intro _;rfl)
  (hline:(apos.endLine == pos.line)=true:=by rfl) (hs:∀ env,starEach [e] env=[(false,eval e env)]:=by intro _;rfl):bG D (.Call (.Attribute o "extend" apos) [e] [] pos) (uW iQ ta tas):=by
 obtain ⟨_,p,s⟩:=ho;obtain ⟨_,q,r⟩:=ha
 refine ⟨_,fun X h=>?_,Mv Js s r⟩
 have:=Qv (cpos:=pos) (apos:=apos) PySem.F.plainAttrs_list PySem.F.slot_list_extend PySem.F.type_list_extend Ko (p X h) (q X h) (hbase _) (hfew _) hline (hs _) (by rfl)
 rw [h.K] at this
 exact this
end U2
namespace U2
open PySem PySem.Spec PyProof.Rows L2
def intsOf:List U->Option (List Int)
 | []=>some []
 | .int i :: us=>(intsOf us).map (i :: ·)
 | _ :: _=>none
theorem kW {K:PySem.W.Frag} {H:Hp} {M:aI}:∀ {us:List U} {vs:List V} {xs:List Int},aS K H M us vs->intsOf us=some xs->vs=xs.map V.int
 | [],vs,xs,r,e=>by cases e;exact r.inv_nil
 | u :: us,vs,xs,r,e=>by
  obtain ⟨v,vs',rfl,a,b⟩:=r.inv_cons
  cases u with
  | int i =>
   simp only [intsOf] at e
   cases e2:intsOf us with
   | none=>rw [e2] at e;cases e
   | some ys=>rw [e2] at e;cases e;rw [a.int,kW b e2];rfl
  | _=>cases e
def rE:dU:=fun x y M Q=>match x,y with
 | .int i,.int j=>Q (.bl (decide (i < j))) M
 | .tup us,.tup ws=>∃ xs ys,intsOf us=some xs/\intsOf ws=some ys/\Q (.bl (HT.lexLt xs ys)) M
 | _,_=>False
variable {D:Dat}
theorem xC:lG D .Lt rE:=⟨⟨_,fun X h=>h.K ▸ VI.or (SG h.room.units0),fun x y u w H M Q' rm ru rw h Q c=>by
 unfold rE at h
 split at h
 ·rename_i i j
  exact .inl (oW (f:=fun i j=>decide (i < j)) x y (.int i) (.int j) H M Q' rm ru rw h Q c)
 ·rename_i us ws
  obtain ⟨xs,ys,e1,e2,q⟩:=h
  obtain ⟨a,vs,rfl,s1,r1⟩:=ru.tup
  obtain ⟨a',vs',rfl,s2,r2⟩:=rw.tup
  cases kW r1 e1
  cases kW r2 e2
  exact .inr ⟨a,a',xs,ys,rfl,rfl,s1,s2,c.here rm cL q⟩
 ·exact h.elim⟩⟩
end U2
namespace U2
open PySem PySem.Spec PyProof.Rows L2
def kH:Int->List Int->Int
 | m,[]=>m
 | m,n :: ns=>kH (if n > m then n else m) ns
theorem Gz:∀ (ns:List Int) (m:Int),m<=kH m ns/\∀ n∈ns,n<=kH m ns
 | [],m=>⟨Int.le_refl _,fun n h=>by cases h⟩
 | k :: ns,m=>by
  obtain ⟨h1,h2⟩:=Gz ns (if k > m then k else m)
  have hk:m<=(if k > m then k else m)/\k<=(if k > m then k else m):=by split <;> omega
  simp only [kH]
  refine ⟨by omega,fun n hn=>?_⟩
  rcases List.mem_cons.mp hn with rfl | hn
  ·omega
  ·exact h2 n hn
theorem B1:∀ (ns:List Int) (m:Int),kH m ns=m\/kH m ns∈ns
 | [],m=>.inl rfl
 | k :: ns,m=>by
  simp only [kH]
  rcases B1 ns (if k > m then k else m) with h | h
  ·by_cases hk:k > m
   ·rw [if_pos hk] at h ⊢;exact .inr (by rw [h];exact List.mem_cons_self)
   ·rw [if_neg hk] at h ⊢;exact .inl h
  ·exact .inr (List.mem_cons_of_mem _ h)
theorem Q2 {m M:Int} {ns:List Int} (h1:M=m\/M∈ns) (h2:m<=M) (h3:∀ n∈ns,n<=M):kH m ns=M:=by
 obtain ⟨g1,g2⟩:=Gz ns m
 rcases B1 ns m with e | e
 ·rcases h1 with rfl | h1
  ·exact e
  ·have:=g2 M h1;omega
 ·have:=h3 _ e
  rcases h1 with rfl | h1
  ·omega
  ·have:=g2 M h1;omega
section
variable {X:Cx}
theorem Mx (hc:X.calm=true):gW X (.builtin "max") (fun xs H Q=>∃ p m ns,xs=[.ref p]/\dM X.K H p ((m :: ns).map V.int)/\Q (.int (kH m ns)) H):=by
 intro pins s σ H xs us Q I r h
 obtain ⟨p,m,ns,rfl,hq,q⟩:=h
 obtain ⟨u,rfl,rx⟩:=vals1 r
 cases rx
 obtain ⟨its,r',pl,hz⟩:=I.list hq
 have hi:IntsAre its (m :: ns):=intsAre_of r'
 obtain ⟨ys,e⟩:=hi.allInts.items
 have hns:(m :: ns)=ys.toList.map (·.1):=by
  rw [<- hi.numsOf,<- nums_intItems,<- e]
 have hsz:0 < ys.size:=by
  have h3:ns.length + 1=ys.size:=by have:=congrArg List.length hns;simpa using this
  omega
 have hl:=pl.isList
 rw [e] at hl
 refine max_intList (I.ok.hd hc) hl hsz fun v h' tk hv hk=>?_
 obtain ⟨t,rfl⟩:=intItems_at hv
 obtain ⟨h1,h2⟩:=argBest_gt (numAt ys) (ys.size - 1)
 have hM:kH m ns=numAt ys (argBest (fun i j=>decide (numAt ys i > numAt ys j)) (ys.size - 1)):=by
  have hin:numAt ys (argBest (fun i j=>decide (numAt ys i > numAt ys j)) (ys.size - 1))∈m :: ns:=by
   rw [hns,numAt_eq];exact getD_mem (by rw [List.length_map,Array.length_toList];omega)
  have hge:∀ a∈m :: ns,a<=numAt ys (argBest (fun i j=>decide (numAt ys i > numAt ys j)) (ys.size - 1)):=fun a ha=>by
   rw [hns] at ha
   obtain ⟨j,hj,rfl⟩:=mem_getD ha
   rw [List.length_map,Array.length_toList] at hj
   rw [<- numAt_eq];exact h2 j (by omega)
  exact Q2 (List.mem_cons.mp hin) (hge m List.mem_cons_self) fun n hn=>hge n (List.mem_cons_of_mem _ hn)
 exact ⟨.int (kH m ns),H,I.kept hk,⟨t,by rw [hM]⟩,q⟩
theorem NC (hc:X.calm=true):gW X (.builtin "sum") (fun xs H Q=>∃ p ns,xs=[.ref p]/\dM X.K H p (ns.map V.int)/\PySem.SumFits ns/\Q (.int ns.sum) H):=by
 intro pins s σ H xs us Q I r h
 obtain ⟨p,ns,rfl,hq,hf,q⟩:=h
 obtain ⟨u,rfl,rx⟩:=vals1 r
 cases rx
 obtain ⟨its,r',pl,hz⟩:=I.list hq
 have hi:IntsAre its ns:=intsAre_of r'
 obtain ⟨ys,e⟩:=hi.allInts.items
 have hns:ns=ys.toList.map (·.1):=by
  rw [<- hi.numsOf,<- nums_intItems,<- e]
 have hl:=pl.isList
 rw [e] at hl
 subst hns
 refine sum_intList (I.ok.hd hc) hl (fun j hj=>?_) fun h' tk t' hk=>?_
 ·rw [numAt_eq,preSum_eq];exact hf j (by simpa using hj)
 ·refine ⟨.int _,H,I.kept hk,⟨t',?_⟩,q⟩
  rw [preSum_eq,List.take_of_length_le (by simp)]
def qN:List U->aI->UK->Prop:=fun us M Q=>match us with
 | [x]=>match view M x with
  | .lst ws=>∃ ns,intsOf ws=some ns/\PySem.SumFits ns/\Q (.int ns.sum) M
  | _=>False
 | _=>False
theorem VS {D:Dat}:wI D (.builtin "sum") qN:=⟨⟨_,fun X h=>by
  have:=(NC (X:=X) h.calm);rw [h.K] at this;exact this,fun xs us H M Q' rm rus h Q c=>by
 unfold qN at h
 split at h
 ·rename_i x
  obtain ⟨v,rfl,a1⟩:=rus.one
  split at h
  ·rename_i ws e
   obtain ⟨ns,e2,hf,q⟩:=h
   obtain ⟨b,zvs,rfl,s2,r2⟩:=eB rm a1 e
   rw [kW r2 e2] at s2
   exact ⟨b,ns,rfl,s2,hf,c.here rm cP q⟩
  ·exact h.elim
 ·exact h.elim⟩⟩
def qF:List U->aI->UK->Prop:=fun us M Q=>match us with
 | [.int i,.int j]=>Q (.int (if j > i then j else i)) M
 | [x]=>match view M x with
  | .lst ws=>∃ m ns,intsOf ws=some (m :: ns)/\Q (.int (kH m ns)) M
  | _=>False
 | _=>False
theorem L8 {D:Dat}:wI D (.builtin "max") qF:=⟨⟨_,fun X h=>by
  have:=(ML (X:=X) h.calm).or (Mx h.calm);rw [h.K] at this;exact this,fun xs us H M Q' rm rus h Q c=>by
 unfold qF at h
 split at h
 ·rename_i i j
  obtain ⟨v,z,rfl,a1,a2⟩:=rus.two
  cases a1.int;cases a2.int
  exact .inl ⟨i,j,rfl,c.here rm cP h⟩
 ·rename_i x
  obtain ⟨v,rfl,a1⟩:=rus.one
  split at h
  ·rename_i ws e
   obtain ⟨m,ns,e2,q⟩:=h
   obtain ⟨b,zvs,rfl,s2,r2⟩:=eB rm a1 e
   rw [kW r2 e2] at s2
   exact .inr ⟨b,m,ns,rfl,s2,c.here rm cP q⟩
  ·exact h.elim
 ·exact h.elim⟩⟩
end
end U2
namespace U2
open PySem PySem.Spec PyProof.Rows L2
section
variable {D:Dat} {a b c e o i:Expr} {ta tb tc te to ti:UE} {pos p:Pos} {es:List Expr} {tas:UA} {x:Str}
def xD (te to ti:UE):US:=fun D τ M=>te τ M fun v M1=>to τ M1 fun x M2=>ti τ M2 fun y M3=>match x,y with
 | .ref a,.int k=>match M3 a with
  | some (.lst us)=>∃ j,u6 us.length k=some j/\D.nx τ (mup M3 a (.lst (us.set j v)))
  | _=>False
 | _,_=>False
theorem GY {tpos:Pos} (he:bG D e te) (ho:bG D o to) (hi:bG D i ti) (hs:∀ env,swapsWithSole [.Subscript o i tpos] e pos.line env=pure false:=by intro _;rfl) (hw:∀ env,swappedStores [.Subscript o i tpos] e env=pure none:=by intro _;rfl)
  (h1:∀ env,(assignEach [.Subscript o i tpos] env).map (·.2)=[assign (.Subscript o i tpos) env]:=by intro _;rfl)
  (ha:∀ env v,assign (.Subscript o i tpos) env v=(do
   let ov <- holding [v] (eval o env)
   let iv <- holding [v,ov] (eval i env)
   standAt tpos
   holding [v,ov,iv] (setItem ov iv v)
   release [v,ov,iv] []):=by intro _ _;rfl):pM D (.Assign [.Subscript o i tpos] e pos) (xD te to ti):=by
 obtain ⟨_,p1,s1⟩:=he;obtain ⟨_,p2,s2⟩:=ho;obtain ⟨_,p3,s3⟩:=hi
 refine ⟨_,fun X h=>Uw (p1 X h) (Vo (p2 X h) (p3 X h) set_list (ha _)) (hs _) (hw _) (h1 _),fun σ τ H M D' rs rm h EE d=>?_⟩
 refine s1 σ τ H M _ rs rm h _ fun v vv M1 H1 st1 rm1 rv h1=>?_
 refine s2 σ τ H1 M1 _ (rs.stp st1) rm1 h1 _ fun x vx M2 H2 j0 rm2 rx h2=>?_
 refine s3 σ τ H2 M2 _ ((rs.stp st1).stp j0) rm2 h2 _ fun y vy M3 H3 st3 rm3 ry h3=>?_
 split at h3
 ·rename_i a k
  split at h3
  ·rename_i us e
   obtain ⟨j,hj,q⟩:=h3
   cases (rx.stp st3).ref
   cases ry.int
   obtain ⟨vs,hv,rus⟩:=rm3 a _ e
   have rv3:=(rv.stp j0).stp st3
   have st4:bE H3 M3 (upd H3 a (.lst (vs.set j vv))) (mup M3 a (.lst (us.set j v))):=bE.write e
   have rnew:RelM D.K (upd H3 a (.lst (vs.set j vv))) (mup M3 a (.lst (us.set j v))):=rm3.put st4 ⟨_,b8,(aS.set rv3 j rus).stp st4⟩
   refine ⟨a,vs,k,j,rfl,rfl,hv,by rw [<- rus.length];exact hj,?_⟩
   exact d.nx _ _ _ _ (((st1.trans j0).trans st3).trans st4) rnew ((((rs.stp st1).stp j0).stp st3).stp st4) q
  ·exact h3.elim
 ·exact h3.elim
def tD:U->List U->aI->UK->Prop:=fun x ws M Q=>match x,ws with
 | .ref a,[.int i]=>match M a with
  | some (.lst us)=>-(2 ^ 63)<=i/\i < 2 ^ 63/\∃ k y,seqIndex? i us.length=some k/\us[k]?=some y/\Q y (mup M a (.lst (us.eraseIdx k)))
  | _=>False
 | _,_=>False
def A1:List U->aI->UK->Prop:=fun us M Q=>match us with
 | [.int i]=>Q (.int i) M
 | [.bl k]=>Q (.int (if k then 1 else 0)) M
 | _=>False
def oO (i j:Int):Prop:=Oq i j\/(Builtin.Int.intBits i<=60000000/\Builtin.Int.intBits j<=60000000)
theorem oO.ok {i j:Int} (h:oO i j):IntMulOk i j:=by
 rcases h with h | ⟨h1,h2⟩
 ·exact h.ok
 ·exact IntMulOk.of_le h1 h2 (by decide)
theorem QR {X:Cx}:cV X (binaryOp .Mult) (rI oO fun i j=>.int (i * j)):=P9 fun _ _ _ _ _ _ _ hc q=>mul_int q hc.ok
def iZ (z:Str) (n:Int):Str:=if n < 1 then Str.empty else if (n == 1 || z.length == 0)=true then z else ⟨(List.replicate n.toNat z.cps).foldl (·++·) #[]⟩
theorem RV {X:Cx}:cV X (binaryOp .Mult) (fun x y H Q=>∃ z n,x=.str z/\y=.int n/\-(2 ^ 63)<=n/\n < 2 ^ 20/\z.length<=2 ^ 20/\z.length * n.toNat<=100000/\Q (.str (iZ z n)) H):=by
 intro pins s σ H x y v u Q I rx ry h
 obtain ⟨z,n,rfl,rfl,h1,h2,h3,h4,q⟩:=h
 obtain ⟨t,rfl⟩:=rx
 obtain ⟨t',rfl⟩:=ry
 have e1:(decide (n < -(2 ^ 63:Int)) || decide (n ≥ 2 ^ 63))=false:=by
  rw [decide_eq_false (by omega),decide_eq_false (by omega)];rfl
 refine PySem.P.mul_str e1 (fun g1 g2=>?_) (fun g1 g2=>?_) ?_
 ·intro hh
  have hn:(1:Int)<=n:=by omega
  have e3:(z.length:Int) * n=((z.length * n.toNat:Nat):Int):=by
   rw [Int.natCast_mul,Int.toNat_of_nonneg (by omega)]
  have:=Int.le_ediv_of_mul_le (show (0:Int) < n by omega) (show (z.length:Int) * n<=2 ^ 63 - 1 by rw [e3];omega)
  omega
 ·unfold Builtin.Str.tooLong sizeLine
  exact decide_eq_false (by omega)
 ·have hq:∀ (t2:Tok) k,EP X pins σ Q (.str (iZ z n) t2) { s with toks:=k }:=fun t2 k=>⟨.str (iZ z n),H,I.tok k,⟨t2,rfl⟩,q⟩
  unfold iZ at hq
  by_cases g1:n < 1
  ·rw [if_pos g1]
   simp only [if_pos g1] at hq
   exact ⟨by decide,hq _ _⟩
  ·rw [if_neg g1]
   simp only [if_neg g1] at hq
   by_cases g2:(n == 1 || z.length == 0)=true
   ·rw [if_pos g2]
    simp only [if_pos g2] at hq
    exact hq t s.toks
   ·rw [if_neg g2]
    simp only [if_neg g2] at hq
    refine ⟨?_,hq _ _⟩
    have hsz:∀ (k:Nat) (acc:Array Nat),((List.replicate k z.cps).foldl (·++·) acc).size=acc.size + k * z.cps.size:=by
     intro k
     induction k with
     | zero=>intro acc;simp
     | succ k ih=>intro acc;rw [List.replicate_succ,List.foldl_cons,ih,Array.size_append,Nat.succ_mul];omega
    show ((List.replicate n.toNat z.cps).foldl (·++·) #[]).size<=sizeLine
    rw [hsz]
    have h5:n.toNat * z.cps.size<=100000:=by rw [Nat.mul_comm];exact h4
    have:(100000:Nat)<=sizeLine:=by decide
    simp only [Array.size_empty,Nat.zero_add]
    omega
def tB (o:Bool):dU:=fun x y M Q=>match x,y with
 | .int i,.int j=>oO i j/\Q (.int (i * j)) M
 | .str z,.int n=>-(2 ^ 63)<=n/\n < 2 ^ 20/\z.length<=2 ^ 20/\z.length * n.toNat<=100000/\Q (.str (iZ z n)) M
 | .ref a,.int k=>match M a with
  | some (.lst us)=>-(2 ^ 63)<=k/\k < 2 ^ 63/\us.length * k.toNat<=sizeLine/\kB o (List.replicate k.toNat us).flatten M Q
  | _=>False
 | _,_=>False
theorem aS.rep {K:PySem.W.Frag} {H:Hp} {M:aI} {us:List U} {vs:List V} (r:aS K H M us vs):∀ k:Nat,aS K H M (List.replicate k us).flatten (List.replicate k vs).flatten
 | 0=>by simp only [List.replicate_zero,List.flatten_nil];exact .nil
 | k + 1=>by simp only [List.replicate_succ,List.flatten_cons];exact r.append (aS.rep r k)
theorem QL {K:PySem.W.Frag} {o:Bool}:dO K (fun x y H Q=>rI oO (fun i j=>.int (i * j)) x y H Q\/((∃ z n,x=.str z/\y=.int n/\-(2 ^ 63)<=n/\n < 2 ^ 20/\z.length<=2 ^ 20/\z.length * n.toNat<=100000/\Q (.str (iZ z n)) H)\/SR x y H Q)) (tB o):=fun x y u w H M Q' rm ru rw h Q c=>by
 unfold tB at h
 split at h
 ·rename_i i j
  exact .inl (oR (C:=oO) (f:=fun i j=>i * j) x y (.int i) (.int j) H M Q' rm ru rw h Q c)
 ·rename_i z n
  cases ru.str;cases rw.int
  exact .inr (.inl ⟨z,n,rfl,rfl,h.1,h.2.1,h.2.2.1,h.2.2.2.1,c.here rm iD h.2.2.2.2⟩)
 ·rename_i a k
  split at h
  ·rename_i us e
   obtain ⟨vs,hv,r⟩:=rm a _ e
   cases ru.ref;cases rw.int
   exact .inr (.inr ⟨a,k,vs,rfl,rfl,hv,h.1,h.2.1,by rw [<- r.length];exact h.2.2.1,fun p hp=>c.lst rm (r.rep k.toNat) hp h.2.2.2⟩)
  ·exact h.elim
 ·exact h.elim
theorem jS (own:Bool:=false) (ha:bG D a ta) (hb:bG D b tb):bG D (.BinOp a .Mult b pos) (fC (tB own) ta tb):=uH (fun _ _=>QR.or (RV.or SO)) QL ha hb
def Qm (_ j:Int):Prop:=0 < j/\j < 2 ^ 64
theorem PN {X:Cx}:cV X (binaryOp .FloorDiv) (rI Qm fun i j=>.int (i / j)):=P9 fun i j _ _ _ _ _ hc q=>by
 have h1:(0:Int) < j:=hc.1
 have h2:j.natAbs.log2 < 9000:=by
  have h3:j.natAbs < 2 ^ 64:=by have:=hc.2;omega
  by_cases h:j.natAbs=0
  ·rw [h];decide
  ·have:=(Nat.log2_lt h).mpr h3
   omega
 exact floordiv_int (by omega) (by rw [Int.fdiv_eq_ediv_of_nonneg i (by omega)];exact q) (.inl (PyProof.noPylong_of_log2 h2))
theorem tT (ha:bG D a ta) (hb:bG D b tb):bG D (.BinOp a .FloorDiv b pos) (fC (uI Qm fun i j=>.int (i / j)) ta tb):=uH (fun _ _=>PN) oR ha hb
end
end U2
namespace HT
open PySem PySem.Spec PyProof.Rows L2
variable {prog:Program} {w:World} {A:Around} {E:Value->Shared->Prop} {s:Shared}
theorem sE {t sl:Addr} {items:Array Value} {vl vu:Value} {lo hi:Option Int} {Q:Value->Shared->Prop} (ht:IsTup s.heap t items) (hs:s.heap.IsSliceOf sl vl vu .none) (pl:IsPart vl lo) (pu:IsPart vu hi)
  (hw:bS items.size 0 lo=0/\bS items.size items.size hi=items.size)
  (h:Q (.ref t) s):wpAny (model prog w) A (getItem (.ref t) (.ref sl)) Q E s:=by
 obtain ⟨os,hos,hcs,hds⟩:=id hs
 have hTs:s.TypeIs (.ref sl) "slice":=⟨os,hos,hcs⟩
 unfold getItem
 try with_reducible refine wpAny_holding ?_
 first | refine wpAny_bind (wpAny_pure ?_) | skip
 refine wpAny_bind (wpAny_sequenceKey ht.typeIs (by decide) ?_)
 refine wpAny_bind (wpAny_callSpecial?_slot (name:=Str.ofString "__getitem__") ht.typeIs PyProof.Rows.slot_tuple_getitem
  (wpAny_call_entry PyProof.Rows.slot_tuple_getitem ht.typeIs entry_tuple_getitem ?_ (args_tuple_getitem _ _)))
 show wpAny _ _ (Builtin.Tuple.tupleItemsOf (.ref t) >>= _) _ _ s
 refine wpAny_bind (tupleItemsOf_ ht ?_)
 refine wpAny_bind (wpAny_typeOf hTs ?_)
 rw [if_pos (by decide)]
 refine wpAny_bind (nU hs pl pu ?_)
 have hyes:((((bS items.size 0 lo:Nat):Int) == 0 && (1:Int) == 1 && (bS items.size items.size hi - bS items.size 0 lo) == items.size)=true):=by
  rw [hw.1,hw.2];simp
 show wpAny _ _ (if (((bS items.size 0 lo:Nat):Int) == 0 && (1:Int) == 1 && (bS items.size items.size hi - bS items.size 0 lo) == items.size)=true then _ else _) _ _ s
 rw [if_pos hyes]
 unfold Builtin.Tuple.tupleIsExact
 refine wpAny_bind (wpAny_bind (wpAny_typeOf ht.typeIs (wpAny_pure ?_)))
 rw [if_pos (by decide)]
 refine wpAny_bind (wpAny_rule ?_)
 exact wpAny_pure ⟨_,rfl,wpAny_pure h⟩
end HT
namespace U2
open PySem PySem.Spec PyProof.Rows L2
def TC (K:PySem.W.Frag):V->Option Int->Option Int->Hp->VK->Prop:=fun x lo hi H Q=>∃ a xs,x=.ref a/\fA K H a xs/\(HT.bS xs.length 0 lo=0/\HT.bS xs.length xs.length hi=xs.length)/\Q (.ref a) H
theorem QP {X:Cx}:u3 X (TC X.K):=by
 intro pins s σ H x v vl vu lo hi sl Q I rx hs pl pu h
 obtain ⟨a,xs,rfl,hx,hw,q⟩:=h
 cases rx
 obtain ⟨its,r,ht,hz⟩:=I.tuple hx
 have hlen:its.toArray.size=xs.length:=by rw [List.size_toArray];exact r.length.symm
 refine ⟨"tuple",_,PyProof.Rows.slot_tuple_getitem.lookup,ht.typeIs,?_⟩
 refine HT.sE ht hs pl pu (by rw [hlen];exact hw) ⟨.ref a,H,I,rfl,q⟩
def rD (o:Bool) (te:UE) (tl th:UO):UE:=fun τ M Q=>te τ M fun x M1=>tl τ M1 fun l M2=>th τ M2 fun h M3=>match view M3 x with
 | .lst us=>kB o (eA us l h) M3 Q
 | .tup us=>Q (.tup (eA us l h)) M3
 | .str z=>z.length<=sizeLine/\Q (.str (Txt.slice z l h)) M3
 | _=>False
theorem R7 {K:PySem.W.Frag} {o:Bool} {te:TE} {te':UE} {tl th:TO} {tl' th':UO} (h0:b6 K te te') (h1:A3 K tl tl') (h2:A3 K th th'):b6 K (Wf (fun x lo hi H Q=>TQ K x lo hi H Q\/TC K x lo hi H Q) te tl th) (rD o te' tl' th'):=fun σ τ H M Q' rs rm q Q c =>
 h0 σ τ H M _ rs rm q _ fun u v M1 H1 s1 rm1 ru q1=>h1 σ τ H1 M1 _ (rs.stp s1) rm1 q1 _ fun lo M2 H2 s2 rm2 q2=>h2 σ τ H2 M2 _ ((rs.stp s1).stp s2) rm2 q2 _ fun hi M3 H3 s3 rm3 q3=>by
  have c3:=cO.stp c ((s1.trans s2).trans s3)
  have ru3:=ru.stp (s2.trans s3)
  split at q3
  ·rename_i us e
   obtain ⟨a,xs,rfl,r1,r2⟩:=eB rm3 ru3 e
   exact .inl (.inl ⟨a,xs,rfl,r1,fun p hp=>c3.lst rm3 (G1 r2 lo hi) hp q3⟩)
  ·rename_i us e
   have e':=rW e
   subst e'
   obtain ⟨a,xs,rfl,r1,r2⟩:=ru3.tup
   by_cases hw:HT.bS xs.length 0 lo=0/\HT.bS xs.length xs.length hi=xs.length
   ·refine .inr ⟨a,xs,rfl,r1,hw,c3 _ _ M3 H3 (bE.refl _ _) rm3 ?_ q3⟩
    have e4:eA us lo hi=us:=by
     unfold eA
     rw [r2.length,hw.1,hw.2,List.drop_zero,Nat.sub_zero,<- r2.length,List.take_length]
    rw [e4]
    exact ru3
   ·exact .inl (.inr (.inl ⟨a,xs,rfl,r1,hw,fun p hp=>c3.tup rm3 (G1 r2 lo hi) hp q3⟩))
  ·rename_i z e
   have e':=v8 e
   subst e'
   exact .inl (.inr (.inr ⟨z,ru3.str,q3.1,c3 _ _ M3 H3 (bE.refl _ _) rm3 iD q3.2⟩))
  ·exact q3.elim
theorem gZ {D:Dat} {a:Expr} {ta:UE} {pos:Pos} (own:Bool:=false) {lo hi:Option Expr} {tl th:UO} {p2:Pos} (ha:bG D a ta) (hl:Qy D lo tl) (hh:Qy D hi th):bG D (.Subscript a (.Slice lo hi none p2) pos) (rD own ta tl th):=by
 obtain ⟨_,p,s⟩:=ha;obtain ⟨_,q,r⟩:=hl;obtain ⟨_,u,v⟩:=hh
 refine ⟨_,fun X h=>?_,R7 s r v⟩
 have:=Px (pos:=pos) (p2:=p2) (Ux.or QP) (p X h) (q X h) (u X h)
 rw [h.K] at this
 exact this
end U2
namespace Att
open PySem PySem.Spec PyProof.Rows PySem.W Calls
end Att
namespace L2
open PySem PySem.Spec PyProof.Rows
end L2
namespace U2
open PySem PySem.Spec PyProof.Rows L2
def Aa (K:PySem.W.Frag) (n:Nat) (a:Addr):It :=
 ⟨fun i H=>∃ xs x,dM K H a xs/\xs.length=n/\i < n/\xs[n - 1 - i]?=some x,fun i H x H'=>H'=H/\∀ xs,dM K H a xs->xs[n - 1 - i]?=some x,fun i H=>i=n⟩
theorem NR {P:Program} {w:World} {K:PySem.W.Frag} {tg:Expr} (n:Nat) (a it:Addr):Turn P w K tg (Aa K n a) [it] it (fun i h=>h.IsRevIter it a ((n:Int) - 1 - (i:Int))) where
 mem:=by simp
 obj:=fun i h st b hb=>by
  have e:b=it:=by simpa using hb
  subst e
  obtain ⟨o,e,c,d⟩:=st
  exact ⟨o,e,fun v z=>by rw [d] at z;cases z⟩
 keep:=fun i h h' st k=>st.at fun o e=>k it (by simp) o e
 item:=by
  intro X hP hw hK hc i pins s σ H E I hf st hg
  subst hP hw hK
  obtain ⟨xs,x,hq,hn,hi,hx⟩:=hg
  obtain ⟨its,rv,p,hz⟩:=I.list hq
  obtain ⟨u,hu,ru⟩:=rv.get hx
  obtain ⟨f0,f1,f2,f3,f4,f5⟩:=hf it (by simp)
  have e:(n:Int) - 1 - (i:Int)=((n - 1 - i:Nat):Int):=by omega
  have st0:=st
  rw [e] at st0
  refine wpAny_pyNext_rev_item st0 p.isList (x:=u) (by simpa using hu) fun h' st' sb=>?_
  have I1:Inv X pins σ H { s with heap:=h' }:=I.turned (t':=s.toks) (fun b o hb e=>(sb.2 b hb).trans e) f0 f1 f3 f4 f5
  have e2:((n - 1 - i:Nat):Int) - 1=(n:Int) - 1 - ((i + 1:Nat):Int):=by omega
  rw [e2] at st'
  obtain ⟨o,e,c,d⟩:=id st'
  exact ⟨u,rfl,tR (s:={ s with heap:=h' }) e c d (by decide) ⟨x,H,I1,ru,⟨rfl,fun ys hy=>by rw [I.list_inj hy hq];exact hx⟩,st',fun b hb=>(hf b hb).1⟩⟩
 done:=by
  intro X hP hw hK hc i pins s σ H E I hf st hg
  subst hP hw hK
  have hg':i=n:=hg
  subst hg'
  obtain ⟨f0,f1,f2,f3,f4,f5⟩:=hf it (by simp)
  have e:(i:Int) - 1 - (i:Int)=-1:=by omega
  rw [e] at st
  exact wpAny_pyNext_rev_end (I.ok.hd hc) st fun h' eb=>⟨rfl,I.turned (t':=s.toks) (fun b o hb e=>eb b o hb e) f0 f1 f3 f4 f5⟩
 self:=fun _ _ _ _ _ st h=>wpAny_pyIter_revIter st h
def Tv (K:PySem.W.Frag) (ta:TA):TI:=fun σ H R=>ta σ H fun vs H1=>∃ a xs,vs=[.ref a]/\dM K H1 a xs/\R (Aa K xs.length a) H1
theorem boot_reversed:bootBuiltins "reversed"=some (.type "reversed"):=by kernel_rfl
theorem U9 {X:Cx} {tg:Expr} {a:Expr} {ta:TA} {p pos:Pos} (hg:Gl X "reversed") (hm:X.mg "reversed"=none) (ha:PA X [a] ta) (hs:starEach [a] X.env=[(false,eval a X.env)]) :
  PI X tg (.Call (.Name "reversed" p) [a] [] pos) (Tv X.K ta):=by
 intro pins s σ H R I h
 refine Call_ (lH I hg hm boot_reversed (PyProof.Rows.callWith_type1 (bP (ha pos pins s σ H _ I h) fun us s1 ⟨vs,H1,I1,r1,q1⟩=>?_) hs rfl))
 obtain ⟨a,xs,e,hq,q⟩:=q1
 subst e
 cases r1 with
 | cons r rr =>
  cases rr
  cases r
  obtain ⟨its,rv,p,hz⟩:=I1.list hq
  have hrev:Heap.IsRevIter (s1.heap.push (revObj a ((its.toArray.size:Int) - 1))) s1.heap.objs.size a ((xs.length:Int) - 1 - ((0:Nat):Int)):=by
   refine ⟨_,Heap.get?_push_size _ rfl,rfl,?_⟩
   have e1:((its.toArray.size:Nat):Int) - 1=(xs.length:Int) - 1 - ((0:Nat):Int):=by rw [List.size_toArray,<- rv.length];omega
   rw [<- e1];rfl
  refine call_reversed_list p.isList ?_
  refine wpAny_pyIter_revIter (s:={ s1 with heap:=s1.heap.push (revObj a ((its.toArray.size:Int) - 1)) }) hrev ?_
  have I2:L2.Inv X pins σ H1 { s1 with heap:=s1.heap.push (revObj a ((its.toArray.size:Int) - 1)),toks:=s1.toks }:=I1.kept fun b o e=>Heap.get?_push_of_some _ e
  refine ⟨s1.heap.objs.size,[s1.heap.objs.size],_,_,H1,rfl,I2,NR xs.length a s1.heap.objs.size,hrev,fun b hb=>?_,q⟩
  have e:b=s1.heap.objs.size:=by simpa using hb
  subst e
  exact I1.fpOk (Nat.le_refl _) (I1.hok.fresh (Nat.le_refl _))
theorem Ob {K:PySem.W.Frag} {a:Addr} {us:List U} {vs:List V} {H:Hp} {M:aI} (m:(M a=none/\Rd H a (.lst vs))\/KL K a vs) (r:aS K H M us vs):Walk K (Aa K vs.length a) ⟨none,us.reverse⟩ H M:=by
 have sq:∀ H1 M1,bE H M H1 M1->dM K H1 a vs:=fun H1 M1 s=>by
  rcases m with ⟨m,h⟩ | k
  ·exact .inl (Rd.stp s m h).2
  ·exact .inr k
 refine ⟨fun H1 M1 s rm _ i u e=>?_,fun H1 M1 s rm _=>by show us.reverse.length=vs.length;rw [List.length_reverse,r.length]⟩
 have e':us.reverse[i]?=some u:=e
 have hi:i < us.length:=by
  have:=(List.getElem?_eq_some_iff.mp e').1
  simpa using this
 rw [List.getElem?_reverse hi] at e'
 obtain ⟨v,e2,ru⟩:=r.get e'
 rw [r.length] at e2 hi
 refine ⟨⟨vs,v,sq H1 M1 s,rfl,hi,e2⟩,fun x H2 y=>?_⟩
 obtain ⟨rfl,y⟩:=y
 have:=y vs (sq _ M1 s)
 rw [e2] at this;cases this
 exact ⟨bE.refl _ _,rm,ru.stp s⟩
def vS (ta:UA):UI:=fun τ M R=>ta τ M fun us M1=>match us with
 | [.lst us]=>R ⟨none,us.reverse⟩ M1
 | _=>False
theorem RP {K:PySem.W.Frag} {ta:TA} {ta':UA} (h:kD K ta ta'):sZ K (Tv K ta) (vS ta'):=fun σ τ H M R' rs rm q R c=>h σ τ H M _ rs rm q _ fun us vs M1 H1 s1 rm1 ru h1=>by
 split at h1
 ·rename_i xs
  obtain ⟨v,rfl,a⟩:=ru.one
  simp only [aY] at a
  obtain ⟨a,vs,rfl,m,r⟩:=a
  refine ⟨a,vs,rfl,?_,c _ _ M1 H1 s1 rm1 (Ob m r) h1⟩
  rcases m with ⟨_,m⟩ | k
  ·exact .inl m
  ·exact .inr k
 ·exact h1.elim
theorem EO {D:Dat} {tg:Expr} {a:Expr} {p pos:Pos} {ta:UA} (hm:D.mg "reversed"=none) (ha:mM D [a] ta) (hg:D.sc.names.lookup ("reversed":Str)=some .globalImplicit:=by rfl) (hs:∀ env,starEach [a] env=[(false,eval a env)]:=by intro _;rfl):zJ D tg (.Call (.Name "reversed" p) [a] [] pos) (vS ta):=by
 obtain ⟨_,q,s⟩:=ha
 exact ⟨_,fun X h=>h.K ▸ U9 (by show X.env.scope.names.lookup _=_;rw [h.sc];exact hg) (by rw [h.mg];exact hm) (q X h) (hs _),RP s⟩
end U2
namespace U2
open PySem PySem.Spec PyProof.Rows L2
section
variable {prog:Program} {w:World} {A:Around} {E:Value->Shared->Prop} {s:Shared}
end
theorem J1:bootBuiltins "list"=some (.type "list"):=by kernel_rfl
def oB (o:Bool) (ta:UA):UE:=fun τ M Q=>ta τ M fun us M1=>match us with
 | [x]=>match view M1 x with
  | .lst us=>kB o us.reverse M1 Q
  | _=>False
 | _=>False
end U2
namespace U2
open PySem PySem.Spec PyProof.Rows L2
section
variable {prog:Program} {w:World} {A:Around} {E:Value->Shared->Prop} {s:Shared}
end
section
variable {prog:Program} {w:World} {A:Around} {E:Value->Shared->Prop} {s:Shared}
end
theorem JH {α β:Type} (f:α->Bool) (g:β->Bool):∀ (l:List α) (m:List β),l.length=m.length->(∀ (i:Nat) a b,l[i]?=some a->m[i]?=some b->f a=g b)->l.countP f=m.countP g
 | [],[],_,_=>rfl
 | [],_ :: _,h,_=>by cases h
 | _ :: _,[],h,_=>by cases h
 | a :: l,b :: m,h,k=>by
  rw [List.countP_cons,List.countP_cons,k 0 a b rfl rfl,JH f g l m (by simpa using h) fun i a b h1 h2=>k (i + 1) a b h1 h2]
def uF:List U->Option (List Int)
 | []=>some []
 | .int b :: r=>(uF r).map (b :: ·)
 | _=>none
theorem MT {K:PySem.W.Frag} {H:Hp} {M:aI}:∀ {us:List U} {vs:List V} {bs:List Int},aS K H M us vs->uF us=some bs->vs=bs.map V.int
 | [],_,_,r,h=>by cases h;exact r.inv_nil
 | u :: us,_,bs,r,h=>by
  obtain ⟨v,vs',rfl,a,b⟩:=r.inv_cons
  cases u with
  | int y =>
   simp only [uF] at h
   cases e:uF us with
   | none=>rw [e] at h;cases h
   | some cs =>
    rw [e] at h
    cases h
    rw [MT b e,a.int];rfl
  | _=>cases h
theorem LZ:∀ l:List Int,uF (l.map U.int)=some l
 | []=>rfl
 | a :: l=>by simp only [List.map_cons,uF,LZ l,Option.map_some]
end U2
namespace U2
open PySem PySem.Spec PyProof.Rows L2
abbrev lT (h:Heap) (z TI TO T:Addr) (f:Bool):Prop :=
 h.get? z=some { cls:=.type "zip",dict:=none,data:=.fields #[rawInt T,.bool f,.bool false,.ref TI,.ref TO],slots:=#[] }
section
variable {prog:Program} {w:World} {A:Around} {E:Value->Shared->Prop} {s:Shared} {z TI TO i1 i2:Addr} {f1 f2:List Addr} {n1 n2:Nat} {P1 P2:Nat->Value->Prop} {S1 S2:Nat->Heap->Prop} {i:Nat} {a b:Value} {T:Addr} {f:Bool}
theorem D6 {M:Model} {a:Addr} {Q:Option Obj->Shared->Prop} (h:Q (s.heap.get? a) s):wpAny M A (loadIfAlive a) Q E s:=fun Γ p _=>by
 unfold loadIfAlive
 rw [Sem.wp_loadIfAlive]
 exact (Sem.wp_pure ..).mpr h
theorem GZ {Q:Bool->Shared->Prop} (hz:lT s.heap z TI TO T f) (hT:∃ o,s.heap.get? T=some o) (hQ:∀ h',lT h' z TI TO T true->Heap.SameBut z s.heap h'->Q false { s with heap:=h' }) :
  wpAny (model prog w) A (Builtin.SmallTypes.ownedTupleIsFree (.ref z)) Q E s:=by
 unfold Builtin.SmallTypes.ownedTupleIsFree
 refine wpAny_bind (wpAny_field hz rfl (x:=rawInt T) rfl ?_)
 show wpAny _ _ (loadIfAlive ((T:Int)).toNat >>= _) _ _ _
 obtain ⟨o,ho⟩:=hT
 refine wpAny_bind (D6 ?_)
 rw [Int.toNat_natCast,ho]
 dsimp only
 rw [if_neg (by simp)]
 refine wpAny_bind (wpAny_field hz rfl (x:=.bool f) rfl ?_)
 cases f with
 | true =>
  rw [if_neg (by decide)]
  exact wpAny_pure (hQ s.heap hz (Heap.SameBut.refl ..))
 | false =>
  rw [if_pos (by decide)]
  refine wpAny_bind (wpAny_setField_rec hz (by simp) fun g1 hz1 hs1=>?_)
  replace hz1:lT g1 z TI TO T true:=hz1
  exact wpAny_pure (hQ g1 hz1 hs1)
theorem KU (Z:Zp z TI TO i1 i2 f1 f2) (D1:Draws prog w A i1 f1 n1 P1 S1) (D2:Draws prog w A i2 f2 n2 P2 S2) {Q:Value->Shared->Prop}
  (hz:lT s.heap z TI TO T f) (hT:∃ o,s.heap.get? T=some o) (hTI:IsPair s.heap TI (.ref i1) (.ref i2)) (h1:S1 i s.heap) (h2:S2 i s.heap) (l1:i < n1) (l2:i < n2)
  (hQ:∀ x y h' tk,P1 i x->P2 i y->lT h' z TI TO T true->S1 (i + 1) h'->S2 (i + 1) h'->IsPair h' s.heap.objs.size x y ->
   (∀ c o,c≠z->c≠i1->c≠i2->s.heap.get? c=some o->h'.get? c=some o)->Q (.ref s.heap.objs.size) { s with heap:=h',toks:=tk }) :
  wpAny (model prog w) A (Builtin.«zip.__next__» ⟨[.ref z],[]⟩) (fun fin s'=>∃ v,fin=.done (.ret v)/\Q v s') E s:=by
 show wpAny _ _ (field (.ref z) 2 >>= _) _ _ _
 refine wpAny_bind (wpAny_field hz rfl (x:=.bool false) rfl ?_)
 show wpAny _ _ (field (.ref z) 3 >>= _) _ _ _
 refine wpAny_bind (wpAny_field hz rfl (x:=.ref TI) rfl ?_)
 refine wpAny_bind (wpAny_seqItems hTI rfl ?_)
 show wpAny _ _ (Builtin.SmallTypes.ownedTupleIsFree (.ref z) >>= _) _ _ _
 refine wpAny_bind (GZ hz hT fun g1 hz1 hs1=>?_)
 simp only [Bool.false_eq_true,if_false]
 rw [<- Array.forIn_toList]
 simp only [List.forIn_cons,List.forIn_nil]
 refine wpAny_bind ?_
 refine wpAny_bind (wpAny_bind (wpAny_holding ?_))
 show wpAny _ _ (Builtin.SmallTypes.nextOf (.ref i1) >>= _) _ _ _
 refine wpAny_bind (D1.item i _ _ _ l1 (Draws.same D1 h1 hs1.extBut Z.zf1) fun x g2 tk2 px j0 hs2=>wpAny_pure ?_)
 refine wpAny_pure ?_
 refine wpAny_bind (wpAny_bind (wpAny_holding ?_))
 show wpAny _ _ (Builtin.SmallTypes.nextOf (.ref i2) >>= _) _ _ _
 refine wpAny_bind (D2.item i _ _ _ l2 (Draws.same D2 (Draws.same D2 h2 hs1.extBut Z.zf2) hs2.extBut Z.if2) fun y g4 tk4 py st4 hs4=>wpAny_pure ?_)
 refine wpAny_pure (wpAny_pure ?_)
 dsimp only
 refine wpAny_bind (wpAny_newTuple ?_ (by show 2<=sizeLine;decide))
 have hsz:g4.objs.size=s.heap.objs.size:=by rw [hs4.1,hs2.1,hs1.1]
 have hz4:lT g4 z TI TO T true:=hs4.extBut _ _ Z.i2z.symm (hs2.extBut _ _ Z.i1z.symm hz1)
 have hk:∀ c o,c≠z->c≠i1->c≠i2->s.heap.get? c=some o->g4.get? c=some o:=fun c o c1 c3 c4 e=>hs4.extBut _ _ c4 (hs2.extBut _ _ c3 (hs1.extBut _ _ c1 e))
 have h14:S1 (i + 1) g4:=Draws.same D1 j0 hs4.extBut Z.if1
 refine wpAny_pure ⟨_,rfl,?_⟩
 show Q (.ref g4.objs.size) _
 rw [hsz]
 refine hQ x y (g4.push { cls:=.type "tuple",data:=.seq #[x,y] }) tk4 px py (Heap.get?_push_of_some _ hz4) (D1.frame _ _ _ h14 fun b hb o e=>Heap.get?_push_of_some _ e) (D2.frame _ _ _ st4 fun b hb o e=>Heap.get?_push_of_some _ e) ?_ fun c o c1 c3 c4 e=>Heap.get?_push_of_some _ (hk c o c1 c3 c4 e)
 rw [<- hsz];exact Heap.get?_push_size _ rfl
theorem PD (Z:Zp z TI TO i1 i2 f1 f2) (D1:Draws prog w A i1 f1 n1 P1 S1) (D2:Draws prog w A i2 f2 n2 P2 S2) {Q:Fin->Shared->Prop}
  (hz:lT s.heap z TI TO T f) (hT:∃ o,s.heap.get? T=some o) (hTI:IsPair s.heap TI (.ref i1) (.ref i2)) (h1:S1 i s.heap) (h2:S2 i s.heap) (l1:i<=n1) (hi:i=min n1 n2)
  (hE:∀ h' e tk,(∀ c o,c≠z->c≠i1->c≠i2->s.heap.get? c=some o->h'.get? c=some o)->(∃ o,h'.get? e=some o/\o.cls=.type "StopIteration")->E (.ref e) { s with heap:=h',toks:=tk }) :
  wpAny (model prog w) A (Builtin.«zip.__next__» ⟨[.ref z],[]⟩) Q E s:=by
 show wpAny _ _ (field (.ref z) 2 >>= _) _ _ _
 refine wpAny_bind (wpAny_field hz rfl (x:=.bool false) rfl ?_)
 show wpAny _ _ (field (.ref z) 3 >>= _) _ _ _
 refine wpAny_bind (wpAny_field hz rfl (x:=.ref TI) rfl ?_)
 refine wpAny_bind (wpAny_seqItems hTI rfl ?_)
 show wpAny _ _ (Builtin.SmallTypes.ownedTupleIsFree (.ref z) >>= _) _ _ _
 refine wpAny_bind (GZ hz hT fun g1 hz1 hs1=>?_)
 simp only [Bool.false_eq_true,if_false]
 rw [<- Array.forIn_toList]
 simp only [List.forIn_cons,List.forIn_nil]
 refine wpAny_bind ?_
 refine wpAny_bind (wpAny_bind (wpAny_holding ?_))
 show wpAny _ _ (Builtin.SmallTypes.nextOf (.ref i1) >>= _) _ _ _
 have hA:S1 i g1:=Draws.same D1 h1 hs1.extBut Z.zf1
 by_cases hlt:i < n1
 ·have hn2:i=n2:=by omega
  refine wpAny_bind (D1.item i _ _ _ hlt hA fun x g2 tk2 px j0 hs2=>wpAny_pure ?_)
  refine wpAny_pure ?_
  refine wpAny_bind (wpAny_bind (wpAny_holding ?_))
  show wpAny _ _ (Builtin.SmallTypes.nextOf (.ref i2) >>= _) _ _ _
  refine wpAny_bind (D2.done _ _ _ (hn2 ▸ Draws.same D2 (Draws.same D2 h2 hs1.extBut Z.zf2) hs2.extBut Z.if2) fun g4 e hs4 he=>?_)
  exact hE g4 e _ (fun c o c1 c3 c4 x=>hs4 _ _ c4 (hs2.extBut _ _ c3 (hs1.extBut _ _ c1 x))) he
 ·have hn1:i=n1:=by omega
  refine wpAny_bind (D1.done _ _ _ (hn1 ▸ hA) fun g2 e hs2 he=>?_)
  exact hE g2 e _ (fun c o c1 c3 _ x=>hs2 _ _ c3 (hs1.extBut _ _ c1 x)) he
theorem yY (Z:Zp z TI TO i1 i2 f1 f2) (D1:Draws prog w A.in1 i1 f1 n1 P1 S1) (D2:Draws prog w A.in1 i2 f2 n2 P2 S2) {Q:Option Value->Shared->Prop}
  (hz:lT s.heap z TI TO T f) (hT:∃ o,s.heap.get? T=some o) (hTI:IsPair s.heap TI (.ref i1) (.ref i2)) (h1:S1 i s.heap) (h2:S2 i s.heap) (l1:i < n1) (l2:i < n2)
  (hQ:∀ x y h' tk,P1 i x->P2 i y->lT h' z TI TO T true->S1 (i + 1) h'->S2 (i + 1) h'->IsPair h' s.heap.objs.size x y ->
   (∀ c o,c≠z->c≠i1->c≠i2->s.heap.get? c=some o->h'.get? c=some o)->Q (some (.ref s.heap.objs.size)) { s with heap:=h',toks:=tk }) :
  wpAny (model prog w) A (pyNext (.ref z)) Q E s:=by
 have hTy:s.TypeIs (.ref z) "zip":=⟨_,hz,rfl⟩
 unfold pyNext
 exact wpAny_bind (wpAny_attempt (wpAny_callSpecial?_slot (name:=Str.ofString "__next__") hTy PySem.F.slot_zip_next
  (wpAny_call_entry PySem.F.slot_zip_next hTy PySem.F.entry_zip_next
   (KU Z D1 D2 hz hT hTI h1 h2 l1 l2 fun x y h' tk a1 a2 a3 a4 a5 a6 a7=>wpAny_pure (hQ x y h' tk a1 a2 a3 a4 a5 a6 a7)) (PySem.F.args_zip_next_1 _))))
theorem Av (Z:Zp z TI TO i1 i2 f1 f2) (D1:Draws prog w A.in1 i1 f1 n1 P1 S1) (D2:Draws prog w A.in1 i2 f2 n2 P2 S2) {Q:Option Value->Shared->Prop}
  (hz:lT s.heap z TI TO T f) (hT:∃ o,s.heap.get? T=some o) (hTI:IsPair s.heap TI (.ref i1) (.ref i2)) (h1:S1 i s.heap) (h2:S2 i s.heap) (l1:i<=n1) (hi:i=min n1 n2)
  (hQ:∀ h' tk,(∀ c o,c≠z->c≠i1->c≠i2->s.heap.get? c=some o->h'.get? c=some o)->Q none { s with heap:=h',toks:=tk }):wpAny (model prog w) A (pyNext (.ref z)) Q E s:=by
 have hTy:s.TypeIs (.ref z) "zip":=⟨_,hz,rfl⟩
 unfold pyNext
 refine wpAny_bind (wpAny_attempt (wpAny_callSpecial?_slot (name:=Str.ofString "__next__") hTy PySem.F.slot_zip_next
  (wpAny_call_entry PySem.F.slot_zip_next hTy PySem.F.entry_zip_next (PD Z D1 D2 hz hT hTI h1 h2 l1 hi fun h' e tk hk he=>?_) (PySem.F.args_zip_next_1 _))))
 obtain ⟨o,ho,hc⟩:=he
 refine wpAny_bind (wpAny_isInstance (T:="StopIteration") (b:=true) ⟨o,ho,hc⟩ isSubtype_stop ?_)
 exact wpAny_pure (hQ _ _ hk)
end
inductive m5 (H0:Hp):List (V × V)->List Addr->Hp->Prop
 | nil:m5 H0 [] [] H0
 | snoc {l:List (V × V)} {ps:List Addr} {H:Hp} {p:Addr} {x y:V} (h:m5 H0 l ps H) (hp:H p=none):m5 H0 (l++[(x,y)]) (ps++[p]) (upd H p (.tup [x,y]))
structure WX (a c z TI TO i1 i2:Addr) (its its':List Value) (i:Nat) (h:Heap):Prop where
 zip:IsZip h z TI TO .none\/∃ T f x y,lT h z TI TO T f/\IsPair h T x y
 ti:IsPair h TI (.ref i1) (.ref i2)
 to:∃ u v,IsPair h TO u v
 one:h.IsTupleIter i1 a i/\h.IsTuple a its.toArray
 two:h.IsListIter i2 c i/\h.IsList c its'.toArray
theorem QO {X:Cx} {pins:List (Addr × Obj)} {σ:L2.St} {A:Around} {R:Result->Shared->Prop} (hh:A.handled=none) {a c z TI TO i1 i2 S:Addr} {its its':List Value} {xs ys:List V} (rv:Vals xs its) (rv':Vals ys its') (res:Value) (n:Nat) (hn:n=min its.length its'.length) (hsz:n<=sizeLine)
  (Z:Zp z TI TO i1 i2 [i1,a] [i2,c]) (n1:a≠i1) (n2:c≠i2) (hS:S≠z/\S≠TI/\S≠TO/\S≠i1/\S≠i2/\S≠a/\S≠c) (H0:Hp) :
  ∀ (k i:Nat) (s:Shared) (H:Hp) (ps:List Addr) (cc:Nat),n - i=k->i<=n->L2.Inv X pins σ H s->(∀ b∈[z,TI,TO,i1,i2,S],kF X pins H b)->WX a c z TI TO i1 i2 its its' i s.heap ->
   s.heap.get? S=some { cls:=.type "list",dict:=none,data:=.seq (ps.map Value.ref).toArray cc,slots:=#[] }->m5 H0 ((xs.zip ys).take i) ps H->ps.length=i ->
   (∀ s' H' ps' cc',L2.Inv X pins σ H' s'->kF X pins H' S->s'.heap.get? S=some { cls:=.type "list",dict:=none,data:=.seq (ps'.map Value.ref).toArray cc',slots:=#[] }->m5 H0 ((xs.zip ys).take n) ps' H'->ps'.length=n->R (.ok (.ret res)) s') ->
   codeAny (model X.prog X.w) A (.builtin "list.extend.loop" ⟨[.ref S,.ref z,res],[]⟩) R s:=by
 have hd:A.in1.in1.handled=none:=hh
 have D1:=uY (prog:=X.prog) (w:=X.w) hd i1 a n1 its.toArray
 have D2:=Draws.list (prog:=X.prog) (w:=X.w) hd i2 c n2 its'.toArray
 have hs1:its.toArray.size=its.length:=by simp
 have hs2:its'.toArray.size=its'.length:=by simp
 intro k
 induction k with
 | zero =>
  intro i s H ps cc hk hi I hf st hSl lp hl fin
  have hin:i=n:=by omega
  subst hin
  refine codeAny_builtin F.entry_extend_loop ?_
  rw [Around.under_plainId F.plain_extend_loop _]
  show wpAny _ A.in1 (pyNext (.ref z) >>= _) _ _ s
  have done:∀ h' tk,(∀ b o,b ∉ [z,TI,TO,i1,i2]->s.heap.get? b=some o->h'.get? b=some o)->R (.ok (.ret res)) { s with heap:=h',toks:=tk }:=fun h' tk kk=>by
   have hf5:∀ b∈[z,TI,TO,i1,i2],kF X pins H b:=fun b hb=>hf b (by simp at hb ⊢;rcases hb with h | h | h | h | h <;> simp [h])
   have I':=I.call' (ch:=[z,TI,TO,i1,i2]) (H':=H) (s':={ s with heap:=h',toks:=tk }) rfl ⟨fun b u q n hb hx=>kk b u hx q,fun b u q n hb hx=>⟨u.slots,kk b u hx q⟩,fun b u q n hx=>n,fun b u q hx=>⟨u,kk b u hx q⟩,fun b xs q=>q,fun b u xs q=>q,fun b ps q=>⟨#[],by rw [q];simp⟩⟩
    (fun a u e'=>by
     refine (I.hok a u e').stay (fun b z hb q=>kk b z (fun hc=>?_) q) (fun _ q=>q) fun _ _ q=>q
     have hnone:=(hf5 b hc).1
     rcases hb with rfl | hb
     ·rw [hnone] at e';cases e'
     ·rw [hnone] at hb;cases hb) I.bare fun b hb=>⟨(hf5 b hb).2.2.2.1,(hf5 b hb).2.1,(hf5 b hb).2.2.2.2.1,(hf5 b hb).2.2.2.2.2⟩
   refine fin _ H ps cc I' (hf S (by simp)) (kk S _ ?_ hSl) lp hl
   simp only [List.mem_cons,List.not_mem_nil,or_false,not_or]
   exact ⟨hS.1,hS.2.1,hS.2.2.1,hS.2.2.2.1,hS.2.2.2.2.1⟩
  obtain ⟨u,v,hTO⟩:=st.to
  rcases st.zip with hz | ⟨T,f,x,y,hz,hT⟩
  ·refine wpAny_bind (C2 Z D1 D2 hz st.ti hTO st.one st.two (by omega) (by omega) fun h' tk hk=>wpAny_pure (done h' tk fun b o hb e=>?_))
   simp only [List.mem_cons,List.not_mem_nil,or_false,not_or] at hb
   exact hk b o hb.1 hb.2.2.1 hb.2.2.2.1 hb.2.2.2.2 e
  ·refine wpAny_bind (Av Z D1 D2 hz ⟨_,hT⟩ st.ti st.one st.two (by omega) (by omega) fun h' tk hk=>wpAny_pure (done h' tk fun b o hb e=>?_))
   simp only [List.mem_cons,List.not_mem_nil,or_false,not_or] at hb
   exact hk b o hb.1 hb.2.2.2.1 hb.2.2.2.2 e
 | succ k ih =>
  intro i s H ps cc hk hi I hf st hSl lp hl fin
  have hlt:i < n:=by omega
  refine codeAny_builtin F.entry_extend_loop ?_
  rw [Around.under_plainId F.plain_extend_loop _]
  show wpAny _ A.in1 (pyNext (.ref z) >>= _) _ _ s
  have old:∀ {b o},s.heap.get? b=some o->b≠s.heap.objs.size:=fun e=>Nat.ne_of_lt (Heap.lt_size e)
  have go:∀ x y h' tk,its.toArray[i]?=some x->its'.toArray[i]?=some y->(∃ f,lT h' z TI TO s.heap.objs.size f)\/(∃ T f x y,T≠s.heap.objs.size/\lT h' z TI TO T f/\IsPair h' T x y)->IsPair h' TI (.ref i1) (.ref i2)->(∃ u v,IsPair h' TO u v)->(h'.IsTupleIter i1 a (i + 1)/\h'.IsTuple a its.toArray)->(h'.IsListIter i2 c (i + 1)/\h'.IsList c its'.toArray)->IsPair h' s.heap.objs.size x y ->
    (∀ b o,b ∉ [z,TI,TO,i1,i2]->s.heap.get? b=some o->h'.get? b=some o) ->
    wpAny (model X.prog X.w) A.in1 (updateSeq S (·.push (.ref s.heap.objs.size)) >>= fun _=>again (.builtin "list.extend.loop" ⟨[.ref S,.ref z,res],[]⟩))
     (fun fin s'=>match fin with | .done f=>R (.ok f) s' | .again c'=>c'.quiet=true/\codeAny (model X.prog X.w) A c' R s') (fun e s'=>R (.error e) s') { s with heap:=h',toks:=tk }:=by
   intro x y h' tk hx hy hzz hti hto ho ht hp kk
   have hSn:S ∉ [z,TI,TO,i1,i2]:=by
    simp only [List.mem_cons,List.not_mem_nil,or_false,not_or]
    exact ⟨hS.1,hS.2.1,hS.2.2.1,hS.2.2.2.1,hS.2.2.2.2.1⟩
   have hS':=kk S _ hSn hSl
   have hST:S≠s.heap.objs.size:=old hSl
   refine wpAny_bind (wpAny_updateSeq hS' rfl ?_ (by simp [hl];omega) (by simp [hl];omega))
   have oth:∀ b o,b≠S->h'.get? b=some o->(h'.update S (Obj.mapSeq (·.push (Value.ref s.heap.objs.size)))).get? b=some o:=fun b o hb e=>(Heap.get?_update_other _ _ (Ne.symm hb)).trans e
   generalize hh2:h'.update S (Obj.mapSeq (·.push (Value.ref s.heap.objs.size)))=h2 at oth
   have hS2:h2.get? S=some { cls:=.type "list",dict:=none,data:=.seq ((ps++[s.heap.objs.size]).map Value.ref).toArray (cc + 1),slots:=#[] }:=by
    rw [<- hh2,Heap.get?_update_self _ hS' rfl]
    simp [Obj.mapSeq]
   have hx':its[i]?=some x:=by simpa using hx
   have hy':its'[i]?=some y:=by simpa using hy
   have li:i < xs.length:=by rw [rv.length];exact (List.getElem?_eq_some_iff.mp hx').1
   have li':i < ys.length:=by rw [rv'.length];exact (List.getElem?_eq_some_iff.mp hy').1
   obtain ⟨x1,ux,rx⟩:=rv.get (List.getElem?_eq_getElem li)
   obtain ⟨y1,uy,ry⟩:=rv'.get (List.getElem?_eq_getElem li')
   rw [hx'] at ux;cases ux
   rw [hy'] at uy;cases uy
   have hf':∀ b∈[z,TI,TO,i1,i2,S],b≠s.heap.objs.size:=fun b hb=>by
    have:=hb
    simp only [List.mem_cons,List.not_mem_nil,or_false] at this
    obtain ⟨o1,e1,_⟩:=st.one.1
    obtain ⟨o2,e2,_⟩:=st.two.1
    have hzl:∃ o,s.heap.get? z=some o:=by
     rcases st.zip with hz | ⟨T,f,x,y,hz,_⟩
     ·exact ⟨_,hz⟩
     ·exact ⟨_,hz⟩
    obtain ⟨oz,hzl⟩:=hzl
    rcases this with rfl | rfl | rfl | rfl | rfl | rfl
    ·exact old hzl
    ·exact old st.ti
    ·obtain ⟨_,_,hTO⟩:=st.to;exact old hTO
    ·exact old e1
    ·exact old e2
    ·exact old hSl
   have hpT:h2.get? s.heap.objs.size=some _:=oth _ _ (Ne.symm hST) hp
   have I':=pN (s:=s) (h':=h2) (tk:=tk) (ch:=[z,TI,TO,i1,i2,S]) (T:=s.heap.objs.size) (o:=.tup [xs[i],ys[i]]) I hf (fun b o hb e=>by
     have hb':=hb
     simp only [List.mem_cons,List.not_mem_nil,or_false,not_or] at hb'
     refine oth b o hb'.2.2.2.2.2 (kk b o ?_ e)
     simp only [List.mem_cons,List.not_mem_nil,or_false,not_or]
     exact ⟨hb'.1,hb'.2.1,hb'.2.2.1,hb'.2.2.2.1,hb'.2.2.2.2.1⟩) (Nat.le_refl _) ⟨by show 2<=sizeLine;decide,[x,y],.cons rx (.cons ry .nil),⟨_,hpT,rfl,rfl,_,rfl⟩⟩
   have hnT:H s.heap.objs.size=none:=I.hok.fresh (Nat.le_refl _)
   have hfn:∀ b∈[z,TI,TO,i1,i2,S],kF X pins (upd H s.heap.objs.size (.tup [xs[i],ys[i]])) b:=fun b hb=>by
    obtain ⟨p1,p2⟩:=hf b hb
    exact ⟨by rw [bD (hf' b hb)];exact p1,p2⟩
   have lp':m5 H0 ((xs.zip ys).take (i + 1)) (ps++[s.heap.objs.size]) (upd H s.heap.objs.size (.tup [xs[i],ys[i]])):=by
    have e:(xs.zip ys).take (i + 1)=(xs.zip ys).take i++[(xs[i],ys[i])]:=by
     rw [List.take_add_one]
     have:(xs.zip ys)[i]?=some (xs[i],ys[i]):=by
      rw [List.getElem?_eq_getElem (by rw [List.length_zip];omega),List.getElem_zip]
     rw [this];rfl
    rw [e]
    exact .snoc lp hnT
   refine wpAny_pure ⟨plainId_quiet F.plain_extend_loop _,ih (i + 1) { s with heap:=h2,toks:=tk } _ (ps++[s.heap.objs.size]) (cc + 1) (by omega) (by omega) I' hfn ⟨?_,oth _ _ (Ne.symm hS.2.1) hti,(let ⟨u,v,e⟩:=hto;⟨u,v,oth _ _ (Ne.symm hS.2.2.1) e⟩),⟨ho.1.at fun o e=>oth _ _ (Ne.symm hS.2.2.2.1) e,let ⟨o,e,r⟩:=ho.2;⟨o,oth _ _ (Ne.symm hS.2.2.2.2.2.1) e,r⟩⟩,⟨ht.1.at fun o e=>oth _ _ (Ne.symm hS.2.2.2.2.1) e,ht.2.at fun o e=>oth _ _ (Ne.symm hS.2.2.2.2.2.2) e⟩⟩ hS2 lp' (by simp [hl]) fin⟩
   refine .inr ?_
   rcases hzz with ⟨f,hz2⟩ | ⟨T,f,x',y',hTn,hz2,hp2⟩
   ·exact ⟨_,f,x,y,oth _ _ (Ne.symm hS.1) hz2,hpT⟩
   ·refine ⟨T,f,x',y',oth _ _ (Ne.symm hS.1) hz2,oth _ _ (fun e=>?_) hp2⟩
    subst e
    have hp3:h'.get? T=some _:=hp2
    rw [hS'] at hp3
    have hcl:=congrArg Obj.cls (Option.some.inj hp3)
    exact absurd (Value.type.inj hcl) (by decide)
  obtain ⟨u,v,hTO⟩:=st.to
  rcases st.zip with hz | ⟨T,f,x,y,hz,hT⟩
  ·refine wpAny_bind (Az Z D1 D2 hz st.ti hTO st.one st.two (by omega) (by omega) fun x y h' tk px py hz' hTO' s1 s2 hp hk=>?_)
   refine go x y h' tk px py (.inl ⟨false,hz'⟩) (hk _ _ Z.TIz Z.TITO Z.TIi1 Z.TIi2 st.ti) ⟨_,_,hTO'⟩ s1 s2 hp fun b o hb e=>?_
   simp only [List.mem_cons,List.not_mem_nil,or_false,not_or] at hb
   exact hk b o hb.1 hb.2.2.1 hb.2.2.2.1 hb.2.2.2.2 e
  ·refine wpAny_bind (yY Z D1 D2 hz ⟨_,hT⟩ st.ti st.one st.two (by omega) (by omega) fun x' y' h' tk px py hz' s1 s2 hp hk=>?_)
   have tp:∀ {b:Addr} {o:Obj} {nm:String},s.heap.get? b=some o->o.cls=.type nm->nm≠"tuple"->T≠b:=fun e hc hn z=>by
    subst z;rw [hT] at e;cases e;exact hn (Value.type.inj hc).symm
   obtain ⟨o1,e1,c1,_⟩:=st.one.1
   obtain ⟨o2,e2,c2,_⟩:=st.two.1
   refine go x' y' h' tk px py (.inr ⟨T,true,x,y,old hT,hz',hk _ _ (tp hz rfl (by decide)) (tp e1 c1 (by decide)) (tp e2 c2 (by decide)) hT⟩) (hk _ _ Z.TIz Z.TIi1 Z.TIi2 st.ti) ⟨_,_,hk _ _ Z.TOz Z.TOi1 Z.TOi2 hTO⟩ s1 s2 hp fun b o hb e=>?_
   simp only [List.mem_cons,List.not_mem_nil,or_false,not_or] at hb
   exact hk b o hb.1 hb.2.2.2.1 hb.2.2.2.2 e
theorem Lu {X:Cx} {pins:List (Addr × Obj)} {σ:L2.St} {H:Hp} {s:Shared} {S:Addr} {o:HO} (I:L2.Inv X pins σ H s) (hf:kF X pins H S) (new:dB X.prog X.w (upd H S o) s.heap S o):L2.Inv X pins σ (upd H S o) s:=by
 have hn:H S=none:=hf.1
 have hf':∀ b∈[S],kF X pins H b:=fun b hb=>by rw [List.mem_singleton.mp hb];exact hf
 refine I.call' (ch:=[S]) (H':=upd H S o) (s':=s) rfl ⟨fun b u q n hb hx=>q,fun b u q n hb hx=>⟨u.slots,q⟩,fun b u q n hx=>?_,fun b u q hx=>⟨u,q⟩,fun b xs q=>by rw [bD (bJ q hn)];exact q,fun b u xs q=>by rw [bD (bJ q hn)];exact q,
  fun b ps q=>⟨#[],by rw [bD (bJ q hn),q];simp⟩⟩ (fun a u e=>?_) I.bare fun b hb=>⟨(hf' b hb).2.2.2.1,(hf' b hb).2.1,(hf' b hb).2.2.2.2.1,(hf' b hb).2.2.2.2.2⟩
 ·rw [bD (fun z=>hx (List.mem_singleton.mpr z))];exact n
 ·by_cases ha:a=S
  ·subst ha;rw [b8] at e;cases e;exact new
  ·rw [bD ha] at e
   exact (I.hok a u e).stay (fun b z hb q=>q) (fun c q=>by rw [bD (bJ q hn)];exact q) fun c xs q=>by rw [bD (bJ q hn)];exact q
theorem zL:∀ ps:List Addr,Vals (ps.map V.ref) (ps.map Value.ref)
 | []=>.nil
 | p :: ps=>.cons rfl (zL ps)
theorem MI:typeLookup (.type "zip") "__len__"=pure none:=by rw [typeLookup_type,builtinLookup_eq_fast];kernel_rfl
theorem IY:typeLookup (.type "zip") "__length_hint__"=pure none:=by rw [typeLookup_type,builtinLookup_eq_fast];kernel_rfl
def CV (K:PySem.W.Frag) (ta:TA):TE:=fun σ H Q=>ta σ H fun vs H1=>∃ a c xs ys,vs=[.ref a,.ref c]/\fA K H1 a xs/\dM K H1 c ys/\∀ p ps H2,m5 H1 (xs.zip ys) ps H2->H2 p=none->Q (.ref p) (upd H2 p (.lst (ps.map V.ref)))
theorem G5 {X:Cx} {a b:Expr} {ta:TA} {p1 p2 pos1 pos2:Pos} (hc:X.calm=true) (hgL:Gl X "list") (hmL:X.mg "list"=none) (hgZ:Gl X "zip") (hmZ:X.mg "zip"=none) (ha:PA X [a,b] ta) (hs:starEach [a,b] X.env=[(false,eval a X.env),(false,eval b X.env)]) (hs1:starEach [b] X.env=[(false,eval b X.env)])
  (hs2:starEach [.Call (.Name "zip" p2) [a,b] [] pos2] X.env=[(false,eval (.Call (.Name "zip" p2) [a,b] [] pos2) X.env)]) :
  PE X (.Call (.Name "list" p1) [.Call (.Name "zip" p2) [a,b] [] pos2] [] pos1) (CV X.K ta):=by
 intro pins s σ H Q I h
 refine Call_ (lH I hgL hmL J1 (PyProof.Rows.callWith_type1 ?_ hs2 rfl))
 rw [hs2]
 show wpAny _ _ (spliced ((false,eval (.Call (.Name "zip" p2) [a,b] [] pos2) X.env) :: backTo pos1 [])) _ _ s
 refine Calls.spliced_cons (Call_ (lH I hgZ hmZ boot_zip (PyProof.Rows.callWith_type1 (bP (ha pos2 pins s σ H _ I h) fun us s1 ⟨vs,H1,I1,r1,q1⟩=>?_) (by rw [hs,hs1]) (by rw [hs1];rfl))))
 obtain ⟨a,c,xs,ys,e,hq,hq',q⟩:=q1
 subst e
 cases r1 with
 | cons r rr =>
  cases rr with
  | cons r' rr =>
   cases rr
   cases r
   cases r'
   obtain ⟨its,rv,p,hz⟩:=I1.tuple hq
   obtain ⟨its',rv',p',hz'⟩:=I1.list hq'
   have pa:s1.heap.IsTuple a its.toArray:=p
   have pc:s1.heap.IsList c its'.toArray:=p'.isList
   have la:a < s1.heap.objs.size:=by obtain ⟨_,e,_⟩:=pa;exact Heap.lt_size e
   have lc:c < s1.heap.objs.size:=by obtain ⟨_,e,_⟩:=pc;exact Heap.lt_size e
   refine LB (f:=false) (g:=true) pa pc fun h' hz hTI hTO h1 h2 hk=>Calls.spliced_nil ?_
   have I2:L2.Inv X pins σ H1 { s1 with heap:=h',toks:=s1.toks }:=I1.kept hk
   refine callType_codes (Q₁:=fun obj s₁=>obj=.ref h'.objs.size/\s₁={ s1 with heap:=h'.push { cls:=.type "list",data:=.seq #[] } }) F.called_list (F.typeCall_list_1 _) F.entry_list_init
    (code_list_new _ ⟨rfl,rfl⟩) fun obj s₁ h₁=>?_
   obtain ⟨rfl,rfl⟩:=h₁
   have hSn:(h'.push { cls:=.type "list",data:=.seq #[] }).get? h'.objs.size=some { cls:=.type "list",data:=.seq #[] }:=Heap.get?_push_size _ rfl
   refine ⟨⟨_,hSn,rfl⟩,F.args_list_init_2 _ _,?_⟩
   have lz:s1.heap.objs.size + 4 < h'.objs.size:=Heap.lt_size hz
   have la':@LT.lt Nat _ a s1.heap.objs.size:=la
   have lc':@LT.lt Nat _ c s1.heap.objs.size:=lc
   have nat:∀ {m n:Addr},(@LT.lt Nat _ m n\/@LT.lt Nat _ n m)->m≠n:=fun h z=>by
    subst z;rcases h with h | h <;> exact Nat.lt_irrefl _ h
   show wpAny _ _ (do let old <- Builtin.List.listItems (.ref h'.objs.size);Builtin.List.listUpdate (.ref h'.objs.size) (fun _=>#[]);letGo old.toList.reverse;Builtin.List.listExtendWith (.ref h'.objs.size) (.ref (s1.heap.objs.size + 4)) .none) _ _ _
   refine wpAny_bind ?_
   unfold Builtin.List.listItems
   refine wpAny_bind (wpAny_seqItems hSn rfl (wpAny_pure ?_))
   show wpAny _ _ (updateSeq h'.objs.size (fun _=>#[]) >>= fun _=>letGo (#[]:Array Value).toList.reverse >>= fun _=>Builtin.List.listExtendWith (.ref h'.objs.size) (.ref (s1.heap.objs.size + 4)) .none) _ _ _
   refine wpAny_bind (wpAny_updateSeq hSn rfl ?_)
   have hS2:=Heap.get?_update_self (Obj.mapSeq (fun _=>(#[]:Array Value))) hSn rfl
   have oth2:∀ b o,h'.get? b=some o->((h'.push { cls:=.type "list",data:=.seq #[] }).update h'.objs.size (Obj.mapSeq (fun _=>(#[]:Array Value)))).get? b=some o :=
    fun b o e=>(Heap.get?_update_other _ _ (Ne.symm (Nat.ne_of_lt (Heap.lt_size e)))).trans (Heap.get?_push_of_some _ e)
   generalize (h'.push { cls:=.type "list",data:=.seq #[] }).update h'.objs.size (Obj.mapSeq (fun _=>(#[]:Array Value)))=g2 at hS2 oth2
   refine wpAny_bind (wpAny_letGo ?_)
   unfold Builtin.List.listExtendWith
   have hz2:IsZip g2 (s1.heap.objs.size + 4) (s1.heap.objs.size + 2) (s1.heap.objs.size + 3) .none:=oth2 _ _ hz
   have hzT:({ s1 with heap:=g2 }:Shared).TypeIs (.ref (s1.heap.objs.size + 4)) "zip":=⟨_,hz2,rfl⟩
   refine wpAny_bind (wpAny_typeOf hzT ?_)
   have e1:Builtin.List.listSameRef (.ref h'.objs.size) (.ref (s1.heap.objs.size + 4))=false:=by simp [Builtin.List.listSameRef];exact nat (by omega)
   have e2:(Value.type "zip" == Value.type "list")=false:=by decide
   have e3:(Value.type "zip" == Value.type "tuple")=false:=by decide
   simp only [e1,e2,e3,Bool.or_false,Bool.false_eq_true,if_false]
   refine wpAny_bind (wpAny_pyIter_zip hz2 ?_)
   refine wpAny_bind (wpAny_holding ?_)
   unfold Builtin.List.listLengthHint
   refine wpAny_bind (wpAny_specialOf hzT MI ?_)
   show wpAny _ _ (specialOf (Value.ref (s1.heap.objs.size + 4)) (Str.ofString "__length_hint__") >>= _) _ _ _
   refine wpAny_bind (wpAny_specialOf hzT IY ?_)
   refine wpAny_pure ?_
   show wpAny _ _ (rule "list.extend.makes-room" >>= fun _=>Builtin.List.listTouch (.ref h'.objs.size) >>= fun _ =>
    again (.builtin "list.extend.loop" ⟨[.ref h'.objs.size,.ref (s1.heap.objs.size + 4),.none],[]⟩)) _ _ _
   refine wpAny_bind (wpAny_rule ?_)
   refine wpAny_bind ?_
   show wpAny _ _ (updateSeq h'.objs.size (·.push .none) >>= fun _=>updateSeq h'.objs.size (·.pop)) _ _ _
   refine wpAny_bind (wpAny_updateSeq hS2 rfl ?_)
   have hS3:=Heap.get?_update_self (Obj.mapSeq (·.push Value.none)) hS2 rfl
   refine wpAny_updateSeq hS3 rfl ?_
   have hS4:=Heap.get?_update_self (Obj.mapSeq (·.pop)) hS3 rfl
   have oth4:∀ b o,h'.get? b=some o->((g2.update h'.objs.size (Obj.mapSeq (·.push Value.none))).update h'.objs.size (Obj.mapSeq (·.pop))).get? b=some o :=
    fun b o e=>(Heap.get?_update_other _ _ (Ne.symm (Nat.ne_of_lt (Heap.lt_size e)))).trans ((Heap.get?_update_other _ _ (Ne.symm (Nat.ne_of_lt (Heap.lt_size e)))).trans (oth2 b o e))
   generalize (g2.update h'.objs.size (Obj.mapSeq (·.push Value.none))).update h'.objs.size (Obj.mapSeq (·.pop))=g4 at hS4 oth4
   have I4:L2.Inv X pins σ H1 { s1 with heap:=g4,toks:=s1.toks }:=I1.kept fun b o e=>oth4 b o (hk b o e)
   have Z:=VP (f:=false) (g:=true) hz ⟨nat (by omega),nat (by omega),nat (by omega),nat (by omega)⟩ hTI hTO h1 h2 (let ⟨o,e,r⟩:=pa;⟨o,hk a o e,r⟩) (pc.at fun o e=>hk c o e)
   refine wpAny_pure ⟨plainId_quiet F.plain_extend_loop _,QO (A:=X.A.in1) (I1.ok.hd hc) rv rv' .none (min its.length its'.length) rfl (by rw [<- rv.length];omega) Z (nat (by omega)) (nat (by omega)) ⟨nat (by omega),nat (by omega),nat (by omega),nat (by omega),nat (by omega),nat (by omega),nat (by omega)⟩ H1 _ 0 { s1 with heap:=g4,toks:=s1.toks } H1 [] _ rfl (Nat.zero_le _) I4 (fun b hb=>?_) ⟨.inl (oth4 _ _ hz),oth4 _ _ hTI,⟨_,_,oth4 _ _ hTO⟩,⟨h1.at fun o e=>oth4 _ _ e,let ⟨o,e,r⟩:=pa;⟨o,oth4 _ _ (hk a o e),r⟩⟩,⟨h2.at fun o e=>oth4 _ _ e,pc.at fun o e=>oth4 _ _ (hk c o e)⟩⟩ hS4 .nil rfl fun s' H' ps' cc' I' fp hSl lp hl=>?_⟩
   ·have le:s1.heap.objs.size<=b:=by
     simp only [List.mem_cons,List.not_mem_nil,or_false] at hb
     rcases hb with e | e | e | e | e | e <;> rw [e] <;> first | exact Nat.le_refl _ | exact Nat.le_add_right _ _ | omega
    exact I1.fpOk le (I1.hok.fresh le)
   ·have hze:(xs.zip ys).take (min its.length its'.length)=xs.zip ys:=List.take_of_length_le (by rw [List.length_zip,rv.length,rv'.length];omega)
    rw [hze] at lp
    refine ⟨rfl,.ref h'.objs.size,upd H' h'.objs.size (.lst (ps'.map V.ref)),Lu I' fp ⟨by rw [List.length_map,hl,<- rv.length];omega,ps'.map Value.ref,cc',zL ps',hSl⟩,rfl,q _ ps' H' lp fp.1⟩
theorem m5.rel {K:PySem.W.Frag} {H0:Hp} {M:aI} (rm:RelM K H0 M) {l:List (V × V)} {ps:List Addr} {H:Hp} (h:m5 H0 l ps H):bE H0 M H M/\RelM K H M/\∀ zs:List (U × U),zs.length=l.length->(∀ (i:Nat) z v,zs[i]?=some z->l[i]?=some v->aY K H0 M z.1 v.1/\aY K H0 M z.2 v.2)->aS K H M (zs.map fun z=>.tup [z.1,z.2]) (ps.map V.ref):=by
 induction h with
 | nil =>
  refine ⟨bE.refl _ _,rm,fun zs hl _=>?_⟩
  have:zs=[]:=List.length_eq_zero_iff.mp (by simpa using hl)
  subst this
  exact .nil
 | @snoc l ps H p x y h hp ih =>
  obtain ⟨st,rm',rel⟩:=ih
  have j0:=bE.laid (o:=.tup [x,y]) rm' hp
  refine ⟨st.trans j0,rm'.laid hp,fun zs hl hr=>?_⟩
  have hne:zs≠[]:=fun z=>by subst z;simp at hl
  obtain ⟨ws,z,rfl⟩:∃ ws z,zs=ws++[z]:=⟨zs.dropLast,zs.getLast hne,(List.dropLast_concat_getLast hne).symm⟩
  have hl':ws.length=l.length:=by simpa using hl
  have r1:=rel ws hl' fun i z v h1 h2=>hr i z v (by rw [List.getElem?_append_left (List.getElem?_eq_some_iff.mp h1).1];exact h1) (by rw [List.getElem?_append_left (List.getElem?_eq_some_iff.mp h2).1];exact h2)
  obtain ⟨a1,a2⟩:=hr ws.length z (x,y) (by simp) (by rw [hl'];simp)
  have rr:aS K H M [z.1,z.2] [x,y]:=.cons (a1.stp st) (.cons (a2.stp st) .nil)
  rw [List.map_append,List.map_append]
  exact (r1.stp j0).append (.cons (u9 (rm'.no hp) b8 (rr.stp j0)) .nil)
theorem pZ:∀ us ws:List U,gN us ws=(us.zip ws).map fun z=>.tup [z.1,z.2]
 | [],ws=>by cases ws <;> rfl
 | _ :: _,[]=>rfl
 | u :: us,w :: ws=>by simp only [gN,List.zip_cons_cons,List.map_cons,pZ us ws]
def kG (o:Bool) (ta:UA):UE:=fun τ M Q=>ta τ M fun us M1=>match us with
 | [.tup us,y]=>match view M1 y with
  | .lst ws=>kB o (gN us ws) M1 Q
  | _=>False
 | _=>False
theorem FY {K:PySem.W.Frag} {o:Bool} {ta:TA} {ta':UA} (h:kD K ta ta'):b6 K (CV K ta) (kG o ta'):=fun σ τ H M Q' rs rm q Q c=>h σ τ H M _ rs rm q _ fun us vs M1 H1 s1 rm1 ru h1=>by
 split at h1
 ·rename_i us y
  split at h1
  ·rename_i ws e
   obtain ⟨v,vs',rfl,a1,b⟩:=ru.inv_cons
   obtain ⟨v2,rfl,a2⟩:=b.one
   obtain ⟨a,zs,rfl,sq,r2⟩:=a1.tup
   obtain ⟨c',zs',rfl,sq',r2'⟩:=eB rm1 a2 e
   refine ⟨a,c',zs,zs',rfl,sq,sq',fun p ps H2 lp hp=>?_⟩
   obtain ⟨st,rm2,rel⟩:=lp.rel rm1
   have r3:=rel (us.zip ws) (by rw [List.length_zip,List.length_zip,r2.length,r2'.length]) fun i z v h1 h2=>by
    rw [List.getElem?_zip_eq_some] at h1 h2
    obtain ⟨v1,g1,g2⟩:=r2.get h1.1
    obtain ⟨v2,g3,g4⟩:=r2'.get h1.2
    rw [h2.1] at g1;cases g1
    rw [h2.2] at g3;cases g3
    exact ⟨g2,g4⟩
   rw [<- pZ] at r3
   exact (cO.stp c (s1.trans st)).lst rm2 r3 hp h1
  ·exact h1.elim
 ·exact h1.elim
theorem Hx {D:Dat} (own:Bool:=false) {a b:Expr} {p1 p2 pos1 pos2:Pos} {ta:UA} (hmL:D.mg "list"=none) (hmZ:D.mg "zip"=none) (ha:mM D [a,b] ta) (hgL:D.sc.names.lookup ("list":Str)=some .globalImplicit:=by rfl) (hgZ:D.sc.names.lookup ("zip":Str)=some .globalImplicit:=by rfl)
  (hs:∀ env,starEach [a,b] env=[(false,eval a env),(false,eval b env)]:=by intro _;rfl) (hs1:∀ env,starEach [b] env=[(false,eval b env)]:=by intro _;rfl) (hs2:∀ env,starEach [.Call (.Name "zip" p2) [a,b] [] pos2] env=[(false,eval (.Call (.Name "zip" p2) [a,b] [] pos2) env)]:=by intro _;rfl) :
  bG D (.Call (.Name "list" p1) [.Call (.Name "zip" p2) [a,b] [] pos2] [] pos1) (kG own ta):=by
 obtain ⟨_,q,s⟩:=ha
 refine ⟨_,fun X h=>?_,FY s⟩
 have:=G5 (X:=X) (p1:=p1) (p2:=p2) (pos1:=pos1) (pos2:=pos2) h.calm (by show X.env.scope.names.lookup _=_;rw [h.sc];exact hgL) (by rw [h.mg];exact hmL) (by show X.env.scope.names.lookup _=_;rw [h.sc];exact hgZ) (by rw [h.mg];exact hmZ) (q X h) (hs _) (hs1 _) (hs2 _)
 rw [h.K] at this
 exact this
end U2
namespace L2
open PySem PySem.Spec PyProof.Rows
section
variable {κ:Type} [DecidableEq κ]
def qE (kvs:List (κ × V)) (k:κ):Option V:=(kvs.find? fun kv=>decide (kv.1=k)).map (·.2)
def putK (kvs:List (κ × V)) (k:κ) (v:V):List (κ × V) :=
 if (kvs.any fun kv=>decide (kv.1=k))=true then kvs.map (fun kv=>if kv.1=k then (kv.1,v) else kv) else kvs++[(k,v)]
def rS (kvs:List (κ × V)) (k:κ):List (κ × V):=kvs.filter fun kv=>decide (kv.1≠k)
theorem oG {p:κ × V} {r:List (κ × V)} {k:κ} (e:p.1=k):qE (p :: r) k=some p.2:=by simp [qE,List.find?_cons,e]
theorem nO {p:κ × V} {r:List (κ × V)} {k:κ} (e:¬ p.1=k):qE (p :: r) k=qE r k:=by simp [qE,List.find?_cons,e]
theorem Bg (k:κ):∀ kvs:List (κ × V),(kvs.any fun kv=>decide (kv.1=k))=(qE kvs k).isSome
 | []=>rfl
 | p :: r=>by
  rw [List.any_cons]
  by_cases e:p.1=k
  ·simp only [oG e,decide_eq_true e,Bool.true_or,Option.isSome_some]
  ·rw [nO e,decide_eq_false e,Bool.false_or];exact Bg k r
theorem NN (k j:κ) (y:V):∀ kvs:List (κ × V),qE (kvs.map fun kv=>if kv.1=k then (kv.1,y) else kv) j=(qE kvs j).map fun x=>if j=k then y else x
 | []=>rfl
 | p :: r=>by
  have ih:=NN k j y r
  rw [List.map_cons]
  by_cases h:p.1=k
  ·rw [if_pos h]
   by_cases e:p.1=j
   ·rw [oG (p:=(p.1,y)) e,oG e,Option.map_some,if_pos (e.symm.trans h)]
   ·rw [nO (p:=(p.1,y)) e,nO e,ih]
  ·rw [if_neg h]
   by_cases e:p.1=j
   ·rw [oG (p:=p) e,oG e,Option.map_some,if_neg (fun z=>h (e.trans z))]
   ·rw [nO (p:=p) e,nO e,ih]
theorem WB {kvs:List (κ × V)} {k:κ} (v:V) (h:qE kvs k=none):putK kvs k v=kvs++[(k,v)]:=by
 unfold putK
 rw [Bg,h]
 exact if_neg (by decide)
end
theorem UL {a b:Key} (e:kV a=kV b):a=b:=by
 cases a with
 | inl i=>cases b with
  | inl j=>have e':V.int i=V.int j:=e;injection e' with e';rw [e']
  | inr y=>exact nomatch (show V.int i=V.str y from e)
 | inr x=>cases b with
  | inl j=>exact nomatch (show V.str x=V.int j from e)
  | inr y=>have e':V.str x=V.str y:=e;injection e' with e';rw [e']
theorem Rr:∀ {a b:List Key},a.map kV=b.map kV->a=b
 | [],[],_=>rfl
 | [],_ :: _,e=>by simp at e
 | _ :: _,[],e=>by simp at e
 | x :: xs,y :: ys,e=>by
  rw [List.map_cons,List.map_cons] at e
  injection e with e1 e2
  rw [UL e1,Rr e2]
abbrev Xk (H:Hp):List (List Key × V)->List (List Key × Addr × Value)->Prop:=Paired fun p q=>p.1=q.1/\H q.2.1=some (.tup (p.1.map kV))/\RelV p.2 q.2.2
section
variable {P:Program} {w:World} {H:Hp} {h:Heap} {a:Addr}
end
section
variable {X:Cx} {pins:List (Addr × Obj)} {σ:St} {H:Hp} {s:Shared} {a:Addr} {y v:V} {u r:Value} {o:Option V} {A:Around} {E:Value->Shared->Prop}
end
section
variable {X:Cx} {pins:List (Addr × Obj)} {σ:St} {H:Hp} {s:Shared} {a:Addr} {kvs:List (Key × V)} {k:Key} {u:Value} {A:Around} {E:Value->Shared->Prop}
end
section
variable {X:Cx} {o i e value:Expr} {pos pos' tpos:Pos} {td ty tv:TE}
end
section
variable {X:Cx} {pos:Pos}
end
abbrev VV:List (V × V)->List (Value × Value)->Prop:=Paired fun p q=>RelV p.1 q.1/\RelV p.2 q.2
section
variable {X:Cx} {pins:List (Addr × Obj)} {σ:St} {H:Hp} {s:Shared} {a:Addr} {y d:V} {u r:Value} {o:Option V} {A:Around} {E:Value->Shared->Prop}
end
section
variable {X:Cx} {o e f:Expr} {apos cpos:Pos} {td ty tx:TE}
end
section
variable {X:Cx} {pins:List (Addr × Obj)} {σ:St} {H:Hp} {s:Shared} {a:Addr} {kvs:List (Key × V)} {A:Around} {E:Value->Shared->Prop}
end
section
variable {X:Cx} {pins:List (Addr × Obj)} {σ:St} {H:Hp} {s:Shared} {a:Addr} {y:V} {u:Value} {A:Around} {E:Value->Shared->Prop}
end
section
variable {X:Cx}
end
section
variable {κ:Type} [DecidableEq κ]
theorem Wn {p:κ × V} {r:List (κ × V)} {k:κ} (e:p.1=k):rS (p :: r) k=rS r k:=by
 unfold rS
 rw [List.filter_cons,if_neg (by simp [e])]
theorem KH {p:κ × V} {r:List (κ × V)} {k:κ} (e:¬ p.1=k):rS (p :: r) k=p :: rS r k:=by
 unfold rS
 rw [List.filter_cons,if_pos (by simp [e])]
theorem OD:∀ {kvs:List (κ × V)} {k:κ},¬ k∈kvs.map (·.1)->rS kvs k=kvs
 | [],_,_=>rfl
 | p :: r,k,h=>by
  have h':¬ k∈r.map (·.1):=fun m=>by
   obtain ⟨q,hq,e⟩:=List.mem_map.mp m
   exact h (List.mem_map.mpr ⟨q,List.mem_cons.mpr (Or.inr hq),e⟩)
  rw [KH fun e=>h (List.mem_map.mpr ⟨p,List.mem_cons.mpr (Or.inl rfl),e⟩),OD h']
end
end L2
namespace U2
open PySem PySem.Spec PyProof.Rows L2
section
variable {prog:Program} {w:World} {A:Around} {E:Value->Shared->Prop} {s:Shared}
end
end U2
namespace U2
open PySem PySem.Spec PyProof.Rows L2
end U2
namespace U2
open PySem PySem.Spec PyProof.Rows L2
end U2
namespace U2
open PySem PySem.Spec PyProof.Rows L2
theorem dD.len {K:PySem.W.Frag} {H:Hp}:∀ {ds:List PyData} {vs:List V},dD K H ds vs->ds.length=vs.length
 | [],vs,h=>by simp only [dD] at h;subst h;rfl
 | d :: ds,vs,h=>by
  simp only [dD] at h
  obtain ⟨v,vs',rfl,_,h2⟩:=h
  simp only [List.length_cons,dD.len h2]
theorem dD.at {X:Cx} {pins:List (Addr × Obj)} {σ:L2.St} {H:Hp} {s:Shared} (I:L2.Inv X pins σ H s):∀ {ds:List PyData} {vs:List V} {us:List Value},dD X.K H ds vs->Vals vs us->∀ (j:Nat) (d:PyData) (u:Value),ds[j]?=some d->us[j]?=some u->∃ as,Reads s.heap u d as
 | [],vs,us,h,r,j,d,u,e,_=>by cases e
 | d0 :: ds,vs,us,h,r,j,d,u,e,e'=>by
  simp only [dD] at h
  obtain ⟨v,vs',rfl,h1,h2⟩:=h
  cases r with
  | cons r rr =>
   cases j with
   | zero=>cases e;cases e';exact h1.reads I r
   | succ j=>exact dD.at I h2 rr j d u e e'
def SE (K:PySem.W.Frag) (neg:Bool):R2:=fun x y H Q=>∃ a xs ds d,y=.ref a/\(dM K H a xs\/fA K H a xs)/\dD K H ds xs/\fE K H d x/\PyData.canLayAll0 ds=true/\d.canLay0=true/\d.depth<=60/\Q (.bl (if neg then !ds.any (fun e=>PyData.eqv e d) else ds.any (fun e=>PyData.eqv e d))) H
theorem Ga:∀ {ds:List PyData},PyData.canLayAll0 ds=true->∀ d∈ds,d.canLay0=true
 | [],_,d,h=>by cases h
 | a :: ds,hh,d,h=>by
  simp only [PyData.canLayAll0,Bool.and_eq_true] at hh
  rcases List.mem_cons.mp h with rfl | h
  ·exact hh.1
  ·exact Ga hh.2 d h
open Classical in
theorem Gn {X:Cx} {k:Nat} (hr:cS k X.A) {pins:List (Addr × Obj)} {σ:L2.St} {H:Hp} {s:Shared} (I:L2.Inv X pins σ H s) {ds:List PyData} {vs:List V} {its:List Value} (h:dD X.K H ds vs) (r:Vals vs its) {d:PyData} {x:V} {v:Value} (hd:fE X.K H d x) (rx:RelV x v) (c1:PyData.canLayAll0 ds=true) (c2:d.canLay0=true) (hdep:d.depth<=60) :
  ∃ e:Value->Bool,(∀ y∈its,SeqAt.EqAt X.A.in1 s y v (e y))/\its.any e=ds.any fun d'=>PyData.eqv d' d:=by
 have hl:ds.length=its.length:=by rw [h.len,r.length]
 obtain ⟨bs,rb⟩:=hd.reads I rx
 have key:∀ (j:Nat) (d':PyData) (u:Value),ds[j]?=some d'->its[j]?=some u->SeqAt.EqAt X.A.in1 s u v (PyData.eqv d' d):=fun j d' u e1 e2=>by
  obtain ⟨as,ra⟩:=dD.at I h r j d' u e1 e2
  exact SeqAt.eqAt_reads d' d _ _ _ _ _ _ ra rb (Ga c1 d' (List.mem_of_getElem? e1)) c2 (by have:=hr.units;show X.A.units + 1 + _ < _;omega)
 refine ⟨fun u=>decide (∃ (j:Nat) (d':PyData),ds[j]?=some d'/\its[j]?=some u/\PyData.eqv d' d=true),fun y hy=>?_,?_⟩
 ·obtain ⟨j,hj⟩:=List.getElem?_of_mem hy
  have hjl:j < ds.length:=by rw [hl];exact (List.getElem?_eq_some_iff.mp hj).1
  have hdj:ds[j]?=some ds[j]:=List.getElem?_eq_getElem hjl
  dsimp only
  by_cases hh:∃ (j:Nat) (d':PyData),ds[j]?=some d'/\its[j]?=some y/\PyData.eqv d' d=true
  ·rw [decide_eq_true hh]
   obtain ⟨i,d',e1,e2,e3⟩:=hh
   rw [<- e3];exact key i d' y e1 e2
  ·rw [decide_eq_false hh]
   have hf:PyData.eqv ds[j] d=false:=by
    cases hc:PyData.eqv ds[j] d with
    | false=>rfl
    | true=>exact absurd ⟨j,ds[j],hdj,hj,hc⟩ hh
   rw [<- hf];exact key j ds[j] y hdj hj
 ·rw [Bool.eq_iff_iff,List.any_eq_true,List.any_eq_true]
  constructor
  ·rintro ⟨u,hu,he⟩
   obtain ⟨j,d',e1,e2,e3⟩:=of_decide_eq_true he
   exact ⟨d',List.mem_of_getElem? e1,e3⟩
  ·rintro ⟨d',hd',he⟩
   obtain ⟨j,hj⟩:=List.getElem?_of_mem hd'
   have hjl:j < its.length:=by rw [<- hl];exact (List.getElem?_eq_some_iff.mp hj).1
   have hij:its[j]?=some its[j]:=List.getElem?_eq_getElem hjl
   exact ⟨its[j],List.getElem_mem hjl,decide_eq_true ⟨j,d',hj,hij,he⟩⟩
theorem K6 {X:Cx} {k:Nat} (hr:cS k X.A):cV X (compareOp .NotIn) (SE X.K true):=by
 intro pins s σ H x y v u Q I rx ry h
 obtain ⟨p,xs,ds,d,rfl,hq,hds,hd,c1,c2,hdep,q⟩:=h
 cases ry
 rcases hq with hq | hq
 ·obtain ⟨its,r,pl,hz⟩:=I.list hq
  obtain ⟨e,he,hany⟩:=Gn hr I hds r hd rx c1 c2 hdep
  refine SeqAt.notIn_listAt e pl.isList (fun w hw=>he w (by simpa using hw)) ⟨.bl _,H,I,rfl,?_⟩
  rw [show its.toArray.any e=its.any e by simp,hany]
  exact q
 ·obtain ⟨its,r,pl,hz⟩:=I.tuple hq
  obtain ⟨e,he,hany⟩:=Gn hr I hds r hd rx c1 c2 hdep
  refine SeqAt.notIn_tupleAt e pl (fun w hw=>he w (by simpa using hw)) ⟨.bl _,H,I,rfl,?_⟩
  rw [show its.toArray.any e=its.any e by simp,hany]
  exact q
def NI (neg:Bool):dU:=fun x y M Q=>∃ us ds d,items M y=some us/\gA us=some ds/\q9 M x=some d/\PyData.canLayAll0 ds=true/\d.canLay0=true/\d.depth<=60/\Q (.bl (if neg then !ds.any (fun e=>PyData.eqv e d) else ds.any (fun e=>PyData.eqv e d))) M
theorem R6 {K:PySem.W.Frag} {neg:Bool}:dO K (SE K neg) (NI neg):=fun x y u w H M Q' rm ru rw h Q c=>by
 obtain ⟨us,ds,d,e1,e2,e3,c1,c2,hdep,q⟩:=h
 obtain ⟨p,xs,rfl,hs,rs⟩:=Am rm rw e1
 exact ⟨p,xs,ds,d,rfl,hs,nQ rs e2,vZ rm ru e3,c1,c2,hdep,c.here rm cL q⟩
theorem Of {D:Dat}:lG D .NotIn (NI true):=⟨⟨_,fun X h=>h.K ▸ K6 h.room,R6⟩⟩
end U2
namespace U2
open PySem PySem.Spec PyProof.Rows L2
def yO:U->Option Key
 | .int i=>some (.inl i)
 | .str x=>some (.inr x)
 | _=>none
def qC:List U->Option (List Key)
 | []=>some []
 | u :: us=>match yO u,qC us with
  | some k,some ks=>some (k :: ks)
  | _,_=>none
def kU:Key->U
 | .inl i=>.int i
 | .inr x=>.str x
theorem Ro (k:Key):yO (kU k)=some k:=by cases k <;> rfl
theorem Oc:∀ ks:List Key,qC (ks.map kU)=some ks
 | []=>rfl
 | k :: ks=>by simp only [List.map_cons,qC,Ro,Oc ks]
theorem O6 {K:PySem.W.Frag} {H:Hp} {M:aI} {u:U} {v:V} {k:Key} (r:aY K H M u v) (e:yO u=some k):v=kV k:=by
 cases u with
 | int i=>cases e;exact r.int
 | str x=>cases e;exact r.str
 | _=>cases e
theorem Mt {K:PySem.W.Frag} {H:Hp} {M:aI}:∀ {us:List U} {vs:List V} {ks:List Key},aS K H M us vs->qC us=some ks->vs=ks.map kV
 | [],_,_,r,e=>by cases e;exact r.inv_nil
 | u :: us,_,ks,r,e=>by
  obtain ⟨v,vs',rfl,a,b⟩:=r.inv_cons
  simp only [qC] at e
  cases e1:yO u with
  | none=>rw [e1] at e;cases e
  | some k =>
   cases e2:qC us with
   | none=>rw [e1,e2] at e;cases e
   | some ks' =>
    rw [e1,e2] at e;cases e
    rw [O6 a e1,Mt b e2];rfl
section
variable {κ:Type} [DecidableEq κ]
def sG (kvs:List (κ × U)) (k:κ):Option U:=(kvs.find? fun kv=>decide (kv.1=k)).map (·.2)
theorem PM {p:κ × U} {r:List (κ × U)} {k:κ} (e:p.1=k):sG (p :: r) k=some p.2:=by simp [sG,List.find?_cons,e]
theorem OF {p:κ × U} {r:List (κ × U)} {k:κ} (e:¬ p.1=k):sG (p :: r) k=sG r k:=by simp [sG,List.find?_cons,e]
theorem NM (k:κ):∀ kvs:List (κ × U),(kvs.any fun kv=>decide (kv.1=k))=(sG kvs k).isSome
 | []=>rfl
 | p :: r=>by
  rw [List.any_cons]
  by_cases e:p.1=k
  ·simp only [PM e,decide_eq_true e,Bool.true_or,Option.isSome_some]
  ·rw [OF e,decide_eq_false e,Bool.false_or];exact NM k r
variable {K:PySem.W.Frag} {H:Hp} {M:aI}
end
def TK:List Key->Key
 | [k]=>k
 | _=>.inl 0
def Wu (M:aI):U->Option MO
 | .ref a=>M a
 | .dic ks true us=>some (.dT (ks.zip us))
 | .dic ks false us=>some (.dK ((ks.map TK).zip us))
 | _=>none
section
variable {K:PySem.W.Frag} {H:Hp} {M:aI} {x y:U} {v u:V}
def W6 (tk:Bool) (M:aI) (x y:U):Option (Option U):=match tk with
 | false=>match Wu M x,yO y with
  | some (.dK kvs),some k=>some (sG kvs k)
  | _,_=>none
 | true=>match Wu M x,y with
  | some (.dT kvs),.tup ys=>(qC ys).map (sG kvs)
  | _,_=>none
end
section
variable {D:Dat} {a b c e o i:Expr} {ta tb tc te to ti:UE} {pos p:Pos} {es:List Expr} {tas:UA} {x:Str}
end
end U2
namespace U2
open PySem PySem.Spec PyProof.Rows L2
end U2
namespace L2
open PySem
theorem Gi {q:List Value->Prop} (h:q []) (us:List Value) (e:us.length=0):q us:=by rw [List.length_eq_zero_iff.mp e];exact h
theorem kA {n:Nat} {q:List Value->Prop} (h:∀ x us,us.length=n->q (x :: us)) (us:List Value) (e:us.length=n + 1):q us:=by
 cases us with
 | nil=>cases e
 | cons x r=>exact h x r (Nat.succ.inj e)
abbrev Ar:=Value->Value->Value->Option Addr->Value->Value->List Value->Prop
theorem g9 {p:Ar} (h:∀ a b c d e g x0,p a b c d e g [x0]) (a b c d e g):∀ us,us.length=1->p a b c d e g us:=kA fun x0=>Gi (h a b c d e g x0)
theorem r0 {p:Ar} (h:∀ a b c d e g x0 x1,p a b c d e g [x0,x1]) (a b c d e g):∀ us,us.length=2->p a b c d e g us:=kA fun x0=>kA fun x1=>Gi (h a b c d e g x0 x1)
theorem Qa {p:Ar} (h:∀ a b c d e g x0 x1 x2,p a b c d e g [x0,x1,x2]) (a b c d e g):∀ us,us.length=3->p a b c d e g us:=kA fun x0=>kA fun x1=>kA fun x2=>Gi (h a b c d e g x0 x1 x2)
theorem Vh {p:Ar} (h:∀ a b c d e g x0 x1 x2 x3,p a b c d e g [x0,x1,x2,x3]) (a b c d e g):∀ us,us.length=4->p a b c d e g us:=kA fun x0=>kA fun x1=>kA fun x2=>kA fun x3=>Gi (h a b c d e g x0 x1 x2 x3)
theorem Xe {p:Ar} (h:∀ a b c d e g x0 x1 x2 x3 x4,p a b c d e g [x0,x1,x2,x3,x4]) (a b c d e g):∀ us,us.length=5->p a b c d e g us:=kA fun x0=>kA fun x1=>kA fun x2=>kA fun x3=>kA fun x4=>Gi (h a b c d e g x0 x1 x2 x3 x4)
theorem Xh {p:Ar} (h:∀ a b c d e g x0 x1 x2 x3 x4 x5,p a b c d e g [x0,x1,x2,x3,x4,x5]) (a b c d e g):∀ us,us.length=6->p a b c d e g us:=kA fun x0=>kA fun x1=>kA fun x2=>kA fun x3=>kA fun x4=>kA fun x5=>Gi (h a b c d e g x0 x1 x2 x3 x4 x5)
end L2
namespace U2
open PySem PySem.Spec PyProof.Rows L2
theorem dE {N P:List Str} {sc:Scope} (a:sc.kind=.function:=by rfl) (b:sc.isCoroutine=false:=by rfl) (c:sc.isGenerator=false:=by rfl) (d:N.Nodup:=by decide +kernel) (e:N.take P.length=P:=by rfl) (f:∀ x∈P,sc.names.lookup x=some .local\/sc.names.lookup x=some .cell:=by decide +kernel) (g:∀ y∈sc.names,y.2≠.free:=by decide +kernel):bB N P sc:=⟨a,b,c,d,e,f,g⟩
theorem nk {xs:List U} {I:Nat->SU->aI->Prop}:∀ i τ M,I i τ M->(Src.mk none xs).ok M:=fun _ _ _ _ _ e=>nomatch e
theorem bL {P:Program} {w:World} {K:PySem.W.Frag} {mg:Str->Option Value} {base:Heap} {x:Str} {st:Stmt} {f:Addr} {fd:FuncData} {N ps:List Str} {k:Nat} {sp:dA} {t:US} (F:b9 K x x st f fd) (hm:mg x=some (.ref f)) (S:bB N ps (aF st))
  (bind:∀ (kV doc pm:Value) (an:Option Addr) (cdv ct:Value) (us:List Value),us.length=ps.length->bindArgs (PySem.W.fnOf x x (bC st) (bA st) (aF st) .none kV doc pm an cdv ct) ⟨us,[]⟩=pure (ps.zip us))
  (h:mV ⟨P,w,K,mg,base,N,aF st,k,true,.none,""⟩ (bA st) t)
  (q:∀ us M Q,sp us M Q->us.length=ps.length/\t { nx:=fun _ M'=>jD Q .non M',rt:=jD Q } (eL N us) M):Callee P w K mg base (k + 1) x sp [] :=
 Nl F hm S bind (fun us M Q hs=>(q us M Q hs).1) h (fun us M Q hs=>(q us M Q hs).2)
end U2
namespace K86
open PySem L2 U2
def top (i:Nat):Stmt:=PySem.Challenge.pw_rowsmith_k86_exchanges_done.main.body.getD i (.Pass ⟨0,0,0,0⟩)
abbrev jF:Stmt:=top 16
theorem Eb:bB ["thing"] ["thing"] (aF jF):=dE
abbrev iV:Stmt:=top 17
theorem B2:bB ["thing"] ["thing"] (aF iV):=dE
abbrev kJ:Stmt:=top 18
theorem HX:bB ["thing"] ["thing"] (aF kJ):=dE
abbrev jL:Stmt:=top 19
theorem gT:bB ["thing","is_leaf","most_pieces","most_within","count","waiting","entry","piece","depth"] ["thing","is_leaf","most_pieces","most_within"] (aF jL):=dE
abbrev jK:Stmt:=top 20
theorem Fo:bB ["shape"] ["shape"] (aF jK):=dE
abbrev jI:Stmt:=top 21
theorem mF:bB ["shape","place","here","number"] ["shape","place"] (aF jI):=dE
abbrev kR:Stmt:=top 23
theorem Hr:bB ["thing"] ["thing"] (aF kR):=dE
abbrev fJ:Stmt:=top 24
theorem wK:bB ["thing"] ["thing"] (aF fJ):=dE
abbrev kP:Stmt:=top 25
theorem Jr:bB ["thing"] ["thing"] (aF kP):=dE
abbrev nJ:Stmt:=top 26
theorem Pu:bB ["tree"] ["tree"] (aF nJ):=dE
abbrev kM:Stmt:=top 27
theorem Iw:bB ["tree","place"] ["tree","place"] (aF kM):=dE
abbrev fK:Stmt:=top 30
theorem xH:bB ["tree"] ["tree"] (aF fK):=dE
abbrev fG:Stmt:=top 31
theorem w9:bB ["tree"] ["tree"] (aF fG):=dE
abbrev gG:Stmt:=top 32
theorem zB:bB ["tree"] ["tree"] (aF gG):=dE
abbrev gF:Stmt:=top 33
theorem yF:bB ["tree"] ["tree"] (aF gF):=dE
abbrev iK:Stmt:=top 34
theorem Cs:bB ["tree"] ["tree"] (aF iK):=dE
abbrev eN:Stmt:=top 35
theorem vE:bB ["tree"] ["tree"] (aF eN):=dE
abbrev kI:Stmt:=top 36
theorem Kk:bB ["tree","word"] ["tree","word"] (aF kI):=dE
abbrev lQ:Stmt:=top 37
theorem i8:bB ["tree","place","part","above","number","found","here"] ["tree","place","part"] (aF lQ):=dE
abbrev jN:Stmt:=top 38
theorem mG:bB ["tree","thing","here","number"] ["tree","thing"] (aF jN):=dE
abbrev kO:Stmt:=top 39
theorem qI:bB ["tree","thing","part","come"] ["tree","thing"] (aF kO):=dE
abbrev iO:Stmt:=top 40
theorem tH:bB ["tree","exchange","come"] ["tree","exchange"] (aF iO):=dE
abbrev jG:Stmt:=top 42
theorem jZ:bB ["script","k","cell","digits"] ["script","k"] (aF jG):=dE
abbrev jR:Stmt:=top 43
theorem u0:bB ["feed","many","found"] ["feed","many"] (aF jR):=dE
abbrev gX:Stmt:=top 44
theorem dS:bB ["feed","many","letters","filler","first","step","size","place","back"] ["feed","many"] (aF gX):=dE
abbrev iN:Stmt:=top 45
theorem CH:bB ["found"] ["found"] (aF iN):=dE
abbrev hU:Stmt:=top 46
theorem mB:bB ["feed","names","deep","number","way","leaf","sign"] ["feed","names","deep","number"] (aF hU):=dE
abbrev kN:Stmt:=top 47
theorem wY:bB ["feed","many","deep","names"] ["feed","many","deep"] (aF kN):=dE
abbrev iB:Stmt:=top 48
theorem EV:bB ["tree"] ["tree"] (aF iB):=dE
abbrev iE:Stmt:=top 49
theorem Ec:bB ["tree"] ["tree"] (aF iE):=dE
abbrev gS:Stmt:=top 50
theorem i7:bB ["tree","found","k","part"] ["tree"] (aF gS):=dE
abbrev lU:Stmt:=top 51
theorem tF:bB ["tree","spot","k"] ["tree","spot"] (aF lU):=dE
abbrev iF:Stmt:=top 52
theorem u5:bB ["tree","spot","other","k"] ["tree","spot","other"] (aF iF):=dE
abbrev eO:Stmt:=top 53
theorem oA:bB ["tree","found"] ["tree"] (aF eO):=dE
abbrev kL:Stmt:=top 54
theorem jP:bB ["tree","found","spot","word","other","whole"] ["tree"] (aF kL):=dE
abbrev kK:Stmt:=top 55
theorem qA:bB ["size","trees"] ["size"] (aF kK):=dE
abbrev iL:Stmt:=top 56
theorem kS:bB ["size","tree","k"] ["size"] (aF iL):=dE
abbrev iP:Stmt:=top 57
theorem tI:bB ["feed","way"] ["feed"] (aF iP):=dE
abbrev jM:Stmt:=top 58
abbrev g6:Stmt:=top 59
theorem gH:bB ["tree","feed","spots","found","word","turn"] ["tree","feed"] (aF g6):=dE
abbrev nA:Stmt:=top 60
theorem iI:bB ["script","k","feed","tree","let_here","exchange","other","known","thing","kinds"] ["script"] (aF nA):=dE
section
variable {P:Program} {w:World} {K:PySem.W.Frag} {mg:Str->Option Value} {base:Heap} {f d d2 fl:Addr} {fd:FuncData}
inductive Op where
 | sum | less | by_
def Op.word:Op->Str
 | .sum=>"sum" | .less=>"less" | .by_=>"by"
inductive Tr where
 | num (n:Int) | name (x:Str) | turn (a:Tr) | two (o:Op) (a b:Tr)
def Tr.toU:Tr->U
 | .num n=>.tup [.str "num",.int n]
 | .name x=>.tup [.str "name",.str x]
 | .turn a=>.tup [.str "turn",a.toU]
 | .two o a b=>.tup [.str o.word,a.toU,b.toU]
def Tr.dep:Tr->Nat
 | .num _=>1
 | .name _=>1
 | .turn a=>a.dep + 1
 | .two _ a b=>max a.dep b.dep + 1
def eJ:List (Str × Fl):=[("turn",.int 1),("sum",.int 2),("less",.int 2),("by",.int 2)]
def bI (p:List Nat):U:=.tup (p.map fun (n:Nat)=>.int (n:Int))
def Tr.parts:Tr->List Tr
 | .turn a=>[a]
 | .two _ a b=>[a,b]
 | _=>[]
def Tr.size:Tr->Nat
 | .turn a=>a.size + 1
 | .two _ a b=>a.size + b.size + 1
 | _=>1
theorem Jt:(Str.ofString "num"=Str.ofString "name")=False:=eq_false (by decide +kernel)
theorem HC:(Str.ofString "num" == Str.ofString "name")=false:=by decide +kernel
theorem HF:(Str.ofString "num"=Str.ofString "turn")=False:=eq_false (by decide +kernel)
theorem Jp:(Str.ofString "num" == Str.ofString "turn")=false:=by decide +kernel
theorem MX:(Str.ofString "num"=Str.ofString "sum")=False:=eq_false (by decide +kernel)
theorem Md:(Str.ofString "num" == Str.ofString "sum")=false:=by decide +kernel
theorem HL:(Str.ofString "num"=Str.ofString "less")=False:=eq_false (by decide +kernel)
theorem Kg:(Str.ofString "num" == Str.ofString "less")=false:=by decide +kernel
theorem OT:(Str.ofString "num"=Str.ofString "by")=False:=eq_false (by decide +kernel)
theorem PB:(Str.ofString "num" == Str.ofString "by")=false:=by decide +kernel
theorem Kv:(Str.ofString "num"=Str.ofString "swap")=False:=eq_false (by decide +kernel)
theorem IE:(Str.ofString "num" == Str.ofString "swap")=false:=by decide +kernel
theorem EH:(Str.ofString "num"=Str.ofString "right")=False:=eq_false (by decide +kernel)
theorem EM:(Str.ofString "num" == Str.ofString "right")=false:=by decide +kernel
theorem JE:(Str.ofString "num"=Str.ofString "left")=False:=eq_false (by decide +kernel)
theorem JJ:(Str.ofString "num" == Str.ofString "left")=false:=by decide +kernel
theorem Hb:(Str.ofString "num"=Str.ofString "open")=False:=eq_false (by decide +kernel)
theorem ID:(Str.ofString "num" == Str.ofString "open")=false:=by decide +kernel
theorem HW:(Str.ofString "num"=Str.ofString "shut")=False:=eq_false (by decide +kernel)
theorem JZ:(Str.ofString "num" == Str.ofString "shut")=false:=by decide +kernel
theorem Mu:(Str.ofString "num"=Str.ofString "off")=False:=eq_false (by decide +kernel)
theorem MB:(Str.ofString "num" == Str.ofString "off")=false:=by decide +kernel
theorem Fn:(Str.ofString "num"=Str.ofString "piece")=False:=eq_false (by decide +kernel)
theorem Ex:(Str.ofString "num" == Str.ofString "piece")=false:=by decide +kernel
theorem Hv:(Str.ofString "name"=Str.ofString "num")=False:=eq_false (by decide +kernel)
theorem HB:(Str.ofString "name" == Str.ofString "num")=false:=by decide +kernel
theorem D3:(Str.ofString "name"=Str.ofString "turn")=False:=eq_false (by decide +kernel)
theorem EJ:(Str.ofString "name" == Str.ofString "turn")=false:=by decide +kernel
theorem JY:(Str.ofString "name"=Str.ofString "sum")=False:=eq_false (by decide +kernel)
theorem Kn:(Str.ofString "name" == Str.ofString "sum")=false:=by decide +kernel
theorem E5:(Str.ofString "name"=Str.ofString "less")=False:=eq_false (by decide +kernel)
theorem Ee:(Str.ofString "name" == Str.ofString "less")=false:=by decide +kernel
theorem MY:(Str.ofString "name"=Str.ofString "by")=False:=eq_false (by decide +kernel)
theorem KQ:(Str.ofString "name" == Str.ofString "by")=false:=by decide +kernel
theorem EF:(Str.ofString "name"=Str.ofString "swap")=False:=eq_false (by decide +kernel)
theorem Ew:(Str.ofString "name" == Str.ofString "swap")=false:=by decide +kernel
theorem Bc:(Str.ofString "name"=Str.ofString "right")=False:=eq_false (by decide +kernel)
theorem BJ:(Str.ofString "name" == Str.ofString "right")=false:=by decide +kernel
theorem DZ:(Str.ofString "name"=Str.ofString "left")=False:=eq_false (by decide +kernel)
theorem E4:(Str.ofString "name" == Str.ofString "left")=false:=by decide +kernel
theorem FO:(Str.ofString "name"=Str.ofString "open")=False:=eq_false (by decide +kernel)
theorem FF:(Str.ofString "name" == Str.ofString "open")=false:=by decide +kernel
theorem El:(Str.ofString "name"=Str.ofString "shut")=False:=eq_false (by decide +kernel)
theorem DM:(Str.ofString "name" == Str.ofString "shut")=false:=by decide +kernel
theorem Jq:(Str.ofString "name"=Str.ofString "off")=False:=eq_false (by decide +kernel)
theorem J9:(Str.ofString "name" == Str.ofString "off")=false:=by decide +kernel
theorem AY:(Str.ofString "name"=Str.ofString "piece")=False:=eq_false (by decide +kernel)
theorem A7:(Str.ofString "name" == Str.ofString "piece")=false:=by decide +kernel
theorem Hh:(Str.ofString "turn"=Str.ofString "num")=False:=eq_false (by decide +kernel)
theorem Kh:(Str.ofString "turn" == Str.ofString "num")=false:=by decide +kernel
theorem ES:(Str.ofString "turn"=Str.ofString "name")=False:=eq_false (by decide +kernel)
theorem Eu:(Str.ofString "turn" == Str.ofString "name")=false:=by decide +kernel
theorem IH:(Str.ofString "turn"=Str.ofString "sum")=False:=eq_false (by decide +kernel)
theorem Ke:(Str.ofString "turn" == Str.ofString "sum")=false:=by decide +kernel
theorem En:(Str.ofString "turn"=Str.ofString "less")=False:=eq_false (by decide +kernel)
theorem Fx:(Str.ofString "turn" == Str.ofString "less")=false:=by decide +kernel
theorem Nh:(Str.ofString "turn"=Str.ofString "by")=False:=eq_false (by decide +kernel)
theorem Nb:(Str.ofString "turn" == Str.ofString "by")=false:=by decide +kernel
theorem FV:(Str.ofString "turn"=Str.ofString "swap")=False:=eq_false (by decide +kernel)
theorem Ea:(Str.ofString "turn" == Str.ofString "swap")=false:=by decide +kernel
theorem BA:(Str.ofString "turn"=Str.ofString "right")=False:=eq_false (by decide +kernel)
theorem Ci:(Str.ofString "turn" == Str.ofString "right")=false:=by decide +kernel
theorem FZ:(Str.ofString "turn"=Str.ofString "left")=False:=eq_false (by decide +kernel)
theorem DT:(Str.ofString "turn" == Str.ofString "left")=false:=by decide +kernel
theorem FQ:(Str.ofString "turn"=Str.ofString "open")=False:=eq_false (by decide +kernel)
theorem FX:(Str.ofString "turn" == Str.ofString "open")=false:=by decide +kernel
theorem Fz:(Str.ofString "turn"=Str.ofString "shut")=False:=eq_false (by decide +kernel)
theorem DB:(Str.ofString "turn" == Str.ofString "shut")=false:=by decide +kernel
theorem Ih:(Str.ofString "turn"=Str.ofString "off")=False:=eq_false (by decide +kernel)
theorem HV:(Str.ofString "turn" == Str.ofString "off")=false:=by decide +kernel
theorem BH:(Str.ofString "turn"=Str.ofString "piece")=False:=eq_false (by decide +kernel)
theorem Co:(Str.ofString "turn" == Str.ofString "piece")=false:=by decide +kernel
theorem L7:(Str.ofString "sum"=Str.ofString "num")=False:=eq_false (by decide +kernel)
theorem NF:(Str.ofString "sum" == Str.ofString "num")=false:=by decide +kernel
theorem Ji:(Str.ofString "sum"=Str.ofString "name")=False:=eq_false (by decide +kernel)
theorem KC:(Str.ofString "sum" == Str.ofString "name")=false:=by decide +kernel
theorem Kq:(Str.ofString "sum"=Str.ofString "turn")=False:=eq_false (by decide +kernel)
theorem HG:(Str.ofString "sum" == Str.ofString "turn")=false:=by decide +kernel
theorem Hj:(Str.ofString "sum"=Str.ofString "less")=False:=eq_false (by decide +kernel)
theorem HA:(Str.ofString "sum" == Str.ofString "less")=false:=by decide +kernel
theorem OG:(Str.ofString "sum"=Str.ofString "by")=False:=eq_false (by decide +kernel)
theorem Pf:(Str.ofString "sum" == Str.ofString "by")=false:=by decide +kernel
theorem J2:(Str.ofString "sum"=Str.ofString "swap")=False:=eq_false (by decide +kernel)
theorem IJ:(Str.ofString "sum" == Str.ofString "swap")=false:=by decide +kernel
theorem Eo:(Str.ofString "sum"=Str.ofString "right")=False:=eq_false (by decide +kernel)
theorem Ek:(Str.ofString "sum" == Str.ofString "right")=false:=by decide +kernel
theorem Hm:(Str.ofString "sum"=Str.ofString "left")=False:=eq_false (by decide +kernel)
theorem IL:(Str.ofString "sum" == Str.ofString "left")=false:=by decide +kernel
theorem IV:(Str.ofString "sum"=Str.ofString "open")=False:=eq_false (by decide +kernel)
theorem HH:(Str.ofString "sum" == Str.ofString "open")=false:=by decide +kernel
theorem Jw:(Str.ofString "sum"=Str.ofString "shut")=False:=eq_false (by decide +kernel)
theorem Kp:(Str.ofString "sum" == Str.ofString "shut")=false:=by decide +kernel
theorem ND:(Str.ofString "sum"=Str.ofString "off")=False:=eq_false (by decide +kernel)
theorem LH:(Str.ofString "sum" == Str.ofString "off")=false:=by decide +kernel
theorem DC:(Str.ofString "sum"=Str.ofString "piece")=False:=eq_false (by decide +kernel)
theorem EC:(Str.ofString "sum" == Str.ofString "piece")=false:=by decide +kernel
theorem Jy:(Str.ofString "less"=Str.ofString "num")=False:=eq_false (by decide +kernel)
theorem IC:(Str.ofString "less" == Str.ofString "num")=false:=by decide +kernel
theorem FJ:(Str.ofString "less"=Str.ofString "name")=False:=eq_false (by decide +kernel)
theorem Fu:(Str.ofString "less" == Str.ofString "name")=false:=by decide +kernel
theorem DP:(Str.ofString "less"=Str.ofString "turn")=False:=eq_false (by decide +kernel)
theorem DL:(Str.ofString "less" == Str.ofString "turn")=false:=by decide +kernel
theorem JT:(Str.ofString "less"=Str.ofString "sum")=False:=eq_false (by decide +kernel)
theorem Hk:(Str.ofString "less" == Str.ofString "sum")=false:=by decide +kernel
theorem Mg:(Str.ofString "less"=Str.ofString "by")=False:=eq_false (by decide +kernel)
theorem K5:(Str.ofString "less" == Str.ofString "by")=false:=by decide +kernel
theorem Fd:(Str.ofString "less"=Str.ofString "swap")=False:=eq_false (by decide +kernel)
theorem Dr:(Str.ofString "less" == Str.ofString "swap")=false:=by decide +kernel
theorem B8:(Str.ofString "less"=Str.ofString "right")=False:=eq_false (by decide +kernel)
theorem BF:(Str.ofString "less" == Str.ofString "right")=false:=by decide +kernel
theorem DE:(Str.ofString "less"=Str.ofString "left")=False:=eq_false (by decide +kernel)
theorem Fm:(Str.ofString "less" == Str.ofString "left")=false:=by decide +kernel
theorem EZ:(Str.ofString "less"=Str.ofString "open")=False:=eq_false (by decide +kernel)
theorem E6:(Str.ofString "less" == Str.ofString "open")=false:=by decide +kernel
theorem D8:(Str.ofString "less"=Str.ofString "shut")=False:=eq_false (by decide +kernel)
theorem Ei:(Str.ofString "less" == Str.ofString "shut")=false:=by decide +kernel
theorem IX:(Str.ofString "less"=Str.ofString "off")=False:=eq_false (by decide +kernel)
theorem Kb:(Str.ofString "less" == Str.ofString "off")=false:=by decide +kernel
theorem CZ:(Str.ofString "less"=Str.ofString "piece")=False:=eq_false (by decide +kernel)
theorem C0:(Str.ofString "less" == Str.ofString "piece")=false:=by decide +kernel
theorem Pz:(Str.ofString "by"=Str.ofString "num")=False:=eq_false (by decide +kernel)
theorem Oa:(Str.ofString "by" == Str.ofString "num")=false:=by decide +kernel
theorem MR:(Str.ofString "by"=Str.ofString "name")=False:=eq_false (by decide +kernel)
theorem Lk:(Str.ofString "by" == Str.ofString "name")=false:=by decide +kernel
theorem LG:(Str.ofString "by"=Str.ofString "turn")=False:=eq_false (by decide +kernel)
theorem LM:(Str.ofString "by" == Str.ofString "turn")=false:=by decide +kernel
theorem NZ:(Str.ofString "by"=Str.ofString "sum")=False:=eq_false (by decide +kernel)
theorem NS:(Str.ofString "by" == Str.ofString "sum")=false:=by decide +kernel
theorem MJ:(Str.ofString "by"=Str.ofString "less")=False:=eq_false (by decide +kernel)
theorem Ll:(Str.ofString "by" == Str.ofString "less")=false:=by decide +kernel
theorem Nk:(Str.ofString "by"=Str.ofString "swap")=False:=eq_false (by decide +kernel)
theorem MD:(Str.ofString "by" == Str.ofString "swap")=false:=by decide +kernel
theorem Iz:(Str.ofString "by"=Str.ofString "right")=False:=eq_false (by decide +kernel)
theorem He:(Str.ofString "by" == Str.ofString "right")=false:=by decide +kernel
theorem K1:(Str.ofString "by"=Str.ofString "left")=False:=eq_false (by decide +kernel)
theorem Ls:(Str.ofString "by" == Str.ofString "left")=false:=by decide +kernel
theorem LK:(Str.ofString "by"=Str.ofString "open")=False:=eq_false (by decide +kernel)
theorem KW:(Str.ofString "by" == Str.ofString "open")=false:=by decide +kernel
theorem KY:(Str.ofString "by"=Str.ofString "shut")=False:=eq_false (by decide +kernel)
theorem M8:(Str.ofString "by" == Str.ofString "shut")=false:=by decide +kernel
theorem Pq:(Str.ofString "by"=Str.ofString "off")=False:=eq_false (by decide +kernel)
theorem Pg:(Str.ofString "by" == Str.ofString "off")=false:=by decide +kernel
theorem Im:(Str.ofString "by"=Str.ofString "piece")=False:=eq_false (by decide +kernel)
theorem Jj:(Str.ofString "by" == Str.ofString "piece")=false:=by decide +kernel
theorem G4:(Str.ofString "swap"=Str.ofString "num")=False:=eq_false (by decide +kernel)
theorem Ky:(Str.ofString "swap" == Str.ofString "num")=false:=by decide +kernel
theorem EB:(Str.ofString "swap"=Str.ofString "name")=False:=eq_false (by decide +kernel)
theorem FD:(Str.ofString "swap" == Str.ofString "name")=false:=by decide +kernel
theorem DJ:(Str.ofString "swap"=Str.ofString "turn")=False:=eq_false (by decide +kernel)
theorem Fc:(Str.ofString "swap" == Str.ofString "turn")=false:=by decide +kernel
theorem HE:(Str.ofString "swap"=Str.ofString "sum")=False:=eq_false (by decide +kernel)
theorem JK:(Str.ofString "swap" == Str.ofString "sum")=false:=by decide +kernel
theorem FI:(Str.ofString "swap"=Str.ofString "less")=False:=eq_false (by decide +kernel)
theorem DW:(Str.ofString "swap" == Str.ofString "less")=false:=by decide +kernel
theorem Lr:(Str.ofString "swap"=Str.ofString "by")=False:=eq_false (by decide +kernel)
theorem Nn:(Str.ofString "swap" == Str.ofString "by")=false:=by decide +kernel
theorem AV:(Str.ofString "swap"=Str.ofString "right")=False:=eq_false (by decide +kernel)
theorem Df:(Str.ofString "swap" == Str.ofString "right")=false:=by decide +kernel
theorem Dx:(Str.ofString "swap"=Str.ofString "left")=False:=eq_false (by decide +kernel)
theorem ER:(Str.ofString "swap" == Str.ofString "left")=false:=by decide +kernel
theorem E7:(Str.ofString "swap"=Str.ofString "open")=False:=eq_false (by decide +kernel)
theorem EG:(Str.ofString "swap" == Str.ofString "open")=false:=by decide +kernel
theorem D9:(Str.ofString "swap"=Str.ofString "shut")=False:=eq_false (by decide +kernel)
theorem FA:(Str.ofString "swap" == Str.ofString "shut")=false:=by decide +kernel
theorem JP:(Str.ofString "swap"=Str.ofString "off")=False:=eq_false (by decide +kernel)
theorem Jf:(Str.ofString "swap" == Str.ofString "off")=false:=by decide +kernel
theorem CO:(Str.ofString "swap"=Str.ofString "piece")=False:=eq_false (by decide +kernel)
theorem Bj:(Str.ofString "swap" == Str.ofString "piece")=false:=by decide +kernel
theorem D4:(Str.ofString "right"=Str.ofString "num")=False:=eq_false (by decide +kernel)
theorem Fv:(Str.ofString "right" == Str.ofString "num")=false:=by decide +kernel
theorem Ca:(Str.ofString "right"=Str.ofString "name")=False:=eq_false (by decide +kernel)
theorem By:(Str.ofString "right" == Str.ofString "name")=false:=by decide +kernel
theorem CQ:(Str.ofString "right"=Str.ofString "turn")=False:=eq_false (by decide +kernel)
theorem BB:(Str.ofString "right" == Str.ofString "turn")=false:=by decide +kernel
theorem EI:(Str.ofString "right"=Str.ofString "sum")=False:=eq_false (by decide +kernel)
theorem FW:(Str.ofString "right" == Str.ofString "sum")=false:=by decide +kernel
theorem Dk:(Str.ofString "right"=Str.ofString "less")=False:=eq_false (by decide +kernel)
theorem CP:(Str.ofString "right" == Str.ofString "less")=false:=by decide +kernel
theorem Kz:(Str.ofString "right"=Str.ofString "by")=False:=eq_false (by decide +kernel)
theorem G3:(Str.ofString "right" == Str.ofString "by")=false:=by decide +kernel
theorem Bn:(Str.ofString "right"=Str.ofString "swap")=False:=eq_false (by decide +kernel)
theorem B3:(Str.ofString "right" == Str.ofString "swap")=false:=by decide +kernel
theorem Dp:(Str.ofString "right"=Str.ofString "left")=False:=eq_false (by decide +kernel)
theorem Bk:(Str.ofString "right" == Str.ofString "left")=false:=by decide +kernel
theorem B5:(Str.ofString "right"=Str.ofString "open")=False:=eq_false (by decide +kernel)
theorem BU:(Str.ofString "right" == Str.ofString "open")=false:=by decide +kernel
theorem BW:(Str.ofString "right"=Str.ofString "shut")=False:=eq_false (by decide +kernel)
theorem Bo:(Str.ofString "right" == Str.ofString "shut")=false:=by decide +kernel
theorem Fb:(Str.ofString "right"=Str.ofString "off")=False:=eq_false (by decide +kernel)
theorem FC:(Str.ofString "right" == Str.ofString "off")=false:=by decide +kernel
theorem AB:(Str.ofString "right"=Str.ofString "piece")=False:=eq_false (by decide +kernel)
theorem AG:(Str.ofString "right" == Str.ofString "piece")=false:=by decide +kernel
theorem Ip:(Str.ofString "left"=Str.ofString "num")=False:=eq_false (by decide +kernel)
theorem Jb:(Str.ofString "left" == Str.ofString "num")=false:=by decide +kernel
theorem Du:(Str.ofString "left"=Str.ofString "name")=False:=eq_false (by decide +kernel)
theorem F1:(Str.ofString "left" == Str.ofString "name")=false:=by decide +kernel
theorem FT:(Str.ofString "left"=Str.ofString "turn")=False:=eq_false (by decide +kernel)
theorem Dz:(Str.ofString "left" == Str.ofString "turn")=false:=by decide +kernel
theorem IW:(Str.ofString "left"=Str.ofString "sum")=False:=eq_false (by decide +kernel)
theorem Hw:(Str.ofString "left" == Str.ofString "sum")=false:=by decide +kernel
theorem Ez:(Str.ofString "left"=Str.ofString "less")=False:=eq_false (by decide +kernel)
theorem DG:(Str.ofString "left" == Str.ofString "less")=false:=by decide +kernel
theorem MU:(Str.ofString "left"=Str.ofString "by")=False:=eq_false (by decide +kernel)
theorem Nt:(Str.ofString "left" == Str.ofString "by")=false:=by decide +kernel
theorem Fh:(Str.ofString "left"=Str.ofString "swap")=False:=eq_false (by decide +kernel)
theorem Eg:(Str.ofString "left" == Str.ofString "swap")=false:=by decide +kernel
theorem Dd:(Str.ofString "left"=Str.ofString "right")=False:=eq_false (by decide +kernel)
theorem Cv:(Str.ofString "left" == Str.ofString "right")=false:=by decide +kernel
theorem EW:(Str.ofString "left"=Str.ofString "open")=False:=eq_false (by decide +kernel)
theorem Ft:(Str.ofString "left" == Str.ofString "open")=false:=by decide +kernel
theorem EA:(Str.ofString "left"=Str.ofString "shut")=False:=eq_false (by decide +kernel)
theorem E8:(Str.ofString "left" == Str.ofString "shut")=false:=by decide +kernel
theorem J3:(Str.ofString "left"=Str.ofString "off")=False:=eq_false (by decide +kernel)
theorem JX:(Str.ofString "left" == Str.ofString "off")=false:=by decide +kernel
theorem BD:(Str.ofString "left"=Str.ofString "piece")=False:=eq_false (by decide +kernel)
theorem Be:(Str.ofString "left" == Str.ofString "piece")=false:=by decide +kernel
theorem Hq:(Str.ofString "open"=Str.ofString "num")=False:=eq_false (by decide +kernel)
theorem JW:(Str.ofString "open" == Str.ofString "num")=false:=by decide +kernel
theorem E1:(Str.ofString "open"=Str.ofString "name")=False:=eq_false (by decide +kernel)
theorem DN:(Str.ofString "open" == Str.ofString "name")=false:=by decide +kernel
theorem Fi:(Str.ofString "open"=Str.ofString "turn")=False:=eq_false (by decide +kernel)
theorem ET:(Str.ofString "open" == Str.ofString "turn")=false:=by decide +kernel
theorem Hi:(Str.ofString "open"=Str.ofString "sum")=False:=eq_false (by decide +kernel)
theorem Ik:(Str.ofString "open" == Str.ofString "sum")=false:=by decide +kernel
theorem Es:(Str.ofString "open"=Str.ofString "less")=False:=eq_false (by decide +kernel)
theorem Dt:(Str.ofString "open" == Str.ofString "less")=false:=by decide +kernel
theorem Ng:(Str.ofString "open"=Str.ofString "by")=False:=eq_false (by decide +kernel)
theorem MV:(Str.ofString "open" == Str.ofString "by")=false:=by decide +kernel
theorem Em:(Str.ofString "open"=Str.ofString "swap")=False:=eq_false (by decide +kernel)
theorem Fj:(Str.ofString "open" == Str.ofString "swap")=false:=by decide +kernel
theorem Cf:(Str.ofString "open"=Str.ofString "right")=False:=eq_false (by decide +kernel)
theorem BX:(Str.ofString "open" == Str.ofString "right")=false:=by decide +kernel
theorem DV:(Str.ofString "open"=Str.ofString "left")=False:=eq_false (by decide +kernel)
theorem FL:(Str.ofString "open" == Str.ofString "left")=false:=by decide +kernel
theorem E2:(Str.ofString "open"=Str.ofString "shut")=False:=eq_false (by decide +kernel)
theorem Eh:(Str.ofString "open" == Str.ofString "shut")=false:=by decide +kernel
theorem Hf:(Str.ofString "open"=Str.ofString "off")=False:=eq_false (by decide +kernel)
theorem HQ:(Str.ofString "open" == Str.ofString "off")=false:=by decide +kernel
theorem BP:(Str.ofString "open"=Str.ofString "piece")=False:=eq_false (by decide +kernel)
theorem Bz:(Str.ofString "open" == Str.ofString "piece")=false:=by decide +kernel
theorem HS:(Str.ofString "shut"=Str.ofString "num")=False:=eq_false (by decide +kernel)
theorem I0:(Str.ofString "shut" == Str.ofString "num")=false:=by decide +kernel
theorem D5:(Str.ofString "shut"=Str.ofString "name")=False:=eq_false (by decide +kernel)
theorem DY:(Str.ofString "shut" == Str.ofString "name")=false:=by decide +kernel
theorem DR:(Str.ofString "shut"=Str.ofString "turn")=False:=eq_false (by decide +kernel)
theorem oZ:(Str.ofString "shut" == Str.ofString "turn")=false:=by decide +kernel
theorem JS:(Str.ofString "shut"=Str.ofString "sum")=False:=eq_false (by decide +kernel)
theorem J0:(Str.ofString "shut" == Str.ofString "sum")=false:=by decide +kernel
theorem DH:(Str.ofString "shut"=Str.ofString "less")=False:=eq_false (by decide +kernel)
theorem Er:(Str.ofString "shut" == Str.ofString "less")=false:=by decide +kernel
theorem Me:(Str.ofString "shut"=Str.ofString "by")=False:=eq_false (by decide +kernel)
theorem Lf:(Str.ofString "shut" == Str.ofString "by")=false:=by decide +kernel
theorem DK:(Str.ofString "shut"=Str.ofString "swap")=False:=eq_false (by decide +kernel)
theorem EK:(Str.ofString "shut" == Str.ofString "swap")=false:=by decide +kernel
theorem A2:(Str.ofString "shut"=Str.ofString "right")=False:=eq_false (by decide +kernel)
theorem BC:(Str.ofString "shut" == Str.ofString "right")=false:=by decide +kernel
theorem DF:(Str.ofString "shut"=Str.ofString "left")=False:=eq_false (by decide +kernel)
theorem Ep:(Str.ofString "shut" == Str.ofString "left")=false:=by decide +kernel
theorem DX:(Str.ofString "shut"=Str.ofString "open")=False:=eq_false (by decide +kernel)
theorem EN:(Str.ofString "shut" == Str.ofString "open")=false:=by decide +kernel
theorem Jm:(Str.ofString "shut"=Str.ofString "off")=False:=eq_false (by decide +kernel)
theorem Kf:(Str.ofString "shut" == Str.ofString "off")=false:=by decide +kernel
theorem C3:(Str.ofString "shut"=Str.ofString "piece")=False:=eq_false (by decide +kernel)
theorem Cd:(Str.ofString "shut" == Str.ofString "piece")=false:=by decide +kernel
theorem M7:(Str.ofString "off"=Str.ofString "num")=False:=eq_false (by decide +kernel)
theorem Nw:(Str.ofString "off" == Str.ofString "num")=false:=by decide +kernel
theorem Ja:(Str.ofString "off"=Str.ofString "name")=False:=eq_false (by decide +kernel)
theorem Ii:(Str.ofString "off" == Str.ofString "name")=false:=by decide +kernel
theorem G6:(Str.ofString "off"=Str.ofString "turn")=False:=eq_false (by decide +kernel)
theorem Ig:(Str.ofString "off" == Str.ofString "turn")=false:=by decide +kernel
theorem Mw:(Str.ofString "off"=Str.ofString "sum")=False:=eq_false (by decide +kernel)
theorem LA:(Str.ofString "off" == Str.ofString "sum")=false:=by decide +kernel
theorem Kw:(Str.ofString "off"=Str.ofString "less")=False:=eq_false (by decide +kernel)
theorem JA:(Str.ofString "off" == Str.ofString "less")=false:=by decide +kernel
theorem NU:(Str.ofString "off"=Str.ofString "by")=False:=eq_false (by decide +kernel)
theorem N9:(Str.ofString "off" == Str.ofString "by")=false:=by decide +kernel
theorem II:(Str.ofString "off"=Str.ofString "swap")=False:=eq_false (by decide +kernel)
theorem IU:(Str.ofString "off" == Str.ofString "swap")=false:=by decide +kernel
theorem EL:(Str.ofString "off"=Str.ofString "right")=False:=eq_false (by decide +kernel)
theorem Et:(Str.ofString "off" == Str.ofString "right")=false:=by decide +kernel
theorem Je:(Str.ofString "off"=Str.ofString "left")=False:=eq_false (by decide +kernel)
theorem J4:(Str.ofString "off" == Str.ofString "left")=false:=by decide +kernel
theorem Jn:(Str.ofString "off"=Str.ofString "open")=False:=eq_false (by decide +kernel)
theorem JO:(Str.ofString "off" == Str.ofString "open")=false:=by decide +kernel
theorem Ju:(Str.ofString "off"=Str.ofString "shut")=False:=eq_false (by decide +kernel)
theorem Kc:(Str.ofString "off" == Str.ofString "shut")=false:=by decide +kernel
theorem FU:(Str.ofString "off"=Str.ofString "piece")=False:=eq_false (by decide +kernel)
theorem DQ:(Str.ofString "off" == Str.ofString "piece")=false:=by decide +kernel
theorem Fy:(Str.ofString "piece"=Str.ofString "num")=False:=eq_false (by decide +kernel)
theorem Dv:(Str.ofString "piece" == Str.ofString "num")=false:=by decide +kernel
theorem BO:(Str.ofString "piece"=Str.ofString "name")=False:=eq_false (by decide +kernel)
theorem CB:(Str.ofString "piece" == Str.ofString "name")=false:=by decide +kernel
theorem CI:(Str.ofString "piece"=Str.ofString "turn")=False:=eq_false (by decide +kernel)
theorem C7:(Str.ofString "piece" == Str.ofString "turn")=false:=by decide +kernel
theorem Fs:(Str.ofString "piece"=Str.ofString "sum")=False:=eq_false (by decide +kernel)
theorem Fe:(Str.ofString "piece" == Str.ofString "sum")=false:=by decide +kernel
theorem A6:(Str.ofString "piece"=Str.ofString "less")=False:=eq_false (by decide +kernel)
theorem Cc:(Str.ofString "piece" == Str.ofString "less")=false:=by decide +kernel
theorem IS:(Str.ofString "piece"=Str.ofString "by")=False:=eq_false (by decide +kernel)
theorem JL:(Str.ofString "piece" == Str.ofString "by")=false:=by decide +kernel
theorem AR:(Str.ofString "piece"=Str.ofString "swap")=False:=eq_false (by decide +kernel)
theorem Dm:(Str.ofString "piece" == Str.ofString "swap")=false:=by decide +kernel
theorem Ap:(Str.ofString "piece"=Str.ofString "right")=False:=eq_false (by decide +kernel)
theorem Au:(Str.ofString "piece" == Str.ofString "right")=false:=by decide +kernel
theorem Cj:(Str.ofString "piece"=Str.ofString "left")=False:=eq_false (by decide +kernel)
theorem C4:(Str.ofString "piece" == Str.ofString "left")=false:=by decide +kernel
theorem BM:(Str.ofString "piece"=Str.ofString "open")=False:=eq_false (by decide +kernel)
theorem CN:(Str.ofString "piece" == Str.ofString "open")=false:=by decide +kernel
theorem AU:(Str.ofString "piece"=Str.ofString "shut")=False:=eq_false (by decide +kernel)
theorem Bb:(Str.ofString "piece" == Str.ofString "shut")=false:=by decide +kernel
theorem FH:(Str.ofString "piece"=Str.ofString "off")=False:=eq_false (by decide +kernel)
theorem Fq:(Str.ofString "piece" == Str.ofString "off")=false:=by decide +kernel
theorem wx:(Str.ofString "num"=Str.ofString "name")=False/\(Str.ofString "num" == Str.ofString "name")=false/\(Str.ofString "num"=Str.ofString "turn")=False/\(Str.ofString "num" == Str.ofString "turn")=false/\(Str.ofString "num"=Str.ofString "sum")=False/\(Str.ofString "num" == Str.ofString "sum")=false/\(Str.ofString "num"=Str.ofString "less")=False/\(Str.ofString "num" == Str.ofString "less")=false/\(Str.ofString "num"=Str.ofString "by")=False/\(Str.ofString "num" == Str.ofString "by")=false/\(Str.ofString "num"=Str.ofString "swap")=False/\(Str.ofString "num" == Str.ofString "swap")=false/\(Str.ofString "num"=Str.ofString "right")=False/\(Str.ofString "num" == Str.ofString "right")=false/\(Str.ofString "num"=Str.ofString "left")=False/\(Str.ofString "num" == Str.ofString "left")=false/\(Str.ofString "num"=Str.ofString "open")=False/\(Str.ofString "num" == Str.ofString "open")=false/\(Str.ofString "num"=Str.ofString "shut")=False/\(Str.ofString "num" == Str.ofString "shut")=false/\(Str.ofString "num"=Str.ofString "off")=False/\(Str.ofString "num" == Str.ofString "off")=false/\(Str.ofString "num"=Str.ofString "piece")=False/\(Str.ofString "num" == Str.ofString "piece")=false/\(Str.ofString "name"=Str.ofString "num")=False/\(Str.ofString "name" == Str.ofString "num")=false/\(Str.ofString "name"=Str.ofString "turn")=False/\(Str.ofString "name" == Str.ofString "turn")=false/\(Str.ofString "name"=Str.ofString "sum")=False/\(Str.ofString "name" == Str.ofString "sum")=false/\(Str.ofString "name"=Str.ofString "less")=False/\(Str.ofString "name" == Str.ofString "less")=false/\(Str.ofString "name"=Str.ofString "by")=False/\(Str.ofString "name" == Str.ofString "by")=false/\(Str.ofString "name"=Str.ofString "swap")=False/\(Str.ofString "name" == Str.ofString "swap")=false/\(Str.ofString "name"=Str.ofString "right")=False/\(Str.ofString "name" == Str.ofString "right")=false/\(Str.ofString "name"=Str.ofString "left")=False/\(Str.ofString "name" == Str.ofString "left")=false/\(Str.ofString "name"=Str.ofString "open")=False/\(Str.ofString "name" == Str.ofString "open")=false/\(Str.ofString "name"=Str.ofString "shut")=False/\(Str.ofString "name" == Str.ofString "shut")=false/\(Str.ofString "name"=Str.ofString "off")=False/\(Str.ofString "name" == Str.ofString "off")=false/\(Str.ofString "name"=Str.ofString "piece")=False/\(Str.ofString "name" == Str.ofString "piece")=false/\(Str.ofString "turn"=Str.ofString "num")=False/\(Str.ofString "turn" == Str.ofString "num")=false/\(Str.ofString "turn"=Str.ofString "name")=False/\(Str.ofString "turn" == Str.ofString "name")=false/\(Str.ofString "turn"=Str.ofString "sum")=False/\(Str.ofString "turn" == Str.ofString "sum")=false/\(Str.ofString "turn"=Str.ofString "less")=False/\(Str.ofString "turn" == Str.ofString "less")=false/\(Str.ofString "turn"=Str.ofString "by")=False/\(Str.ofString "turn" == Str.ofString "by")=false/\(Str.ofString "turn"=Str.ofString "swap")=False/\(Str.ofString "turn" == Str.ofString "swap")=false/\(Str.ofString "turn"=Str.ofString "right")=False/\(Str.ofString "turn" == Str.ofString "right")=false/\(Str.ofString "turn"=Str.ofString "left")=False/\(Str.ofString "turn" == Str.ofString "left")=false/\(Str.ofString "turn"=Str.ofString "open")=False/\(Str.ofString "turn" == Str.ofString "open")=false/\(Str.ofString "turn"=Str.ofString "shut")=False/\(Str.ofString "turn" == Str.ofString "shut")=false/\(Str.ofString "turn"=Str.ofString "off")=False/\(Str.ofString "turn" == Str.ofString "off")=false/\(Str.ofString "turn"=Str.ofString "piece")=False/\(Str.ofString "turn" == Str.ofString "piece")=false/\(Str.ofString "sum"=Str.ofString "num")=False/\(Str.ofString "sum" == Str.ofString "num")=false/\(Str.ofString "sum"=Str.ofString "name")=False/\(Str.ofString "sum" == Str.ofString "name")=false/\(Str.ofString "sum"=Str.ofString "turn")=False/\(Str.ofString "sum" == Str.ofString "turn")=false/\(Str.ofString "sum"=Str.ofString "less")=False/\(Str.ofString "sum" == Str.ofString "less")=false/\(Str.ofString "sum"=Str.ofString "by")=False/\(Str.ofString "sum" == Str.ofString "by")=false/\(Str.ofString "sum"=Str.ofString "swap")=False/\(Str.ofString "sum" == Str.ofString "swap")=false/\(Str.ofString "sum"=Str.ofString "right")=False/\(Str.ofString "sum" == Str.ofString "right")=false/\(Str.ofString "sum"=Str.ofString "left")=False/\(Str.ofString "sum" == Str.ofString "left")=false/\(Str.ofString "sum"=Str.ofString "open")=False/\(Str.ofString "sum" == Str.ofString "open")=false/\(Str.ofString "sum"=Str.ofString "shut")=False/\(Str.ofString "sum" == Str.ofString "shut")=false/\(Str.ofString "sum"=Str.ofString "off")=False/\(Str.ofString "sum" == Str.ofString "off")=false/\(Str.ofString "sum"=Str.ofString "piece")=False/\(Str.ofString "sum" == Str.ofString "piece")=false/\(Str.ofString "less"=Str.ofString "num")=False/\(Str.ofString "less" == Str.ofString "num")=false/\(Str.ofString "less"=Str.ofString "name")=False/\(Str.ofString "less" == Str.ofString "name")=false/\(Str.ofString "less"=Str.ofString "turn")=False/\(Str.ofString "less" == Str.ofString "turn")=false/\(Str.ofString "less"=Str.ofString "sum")=False/\(Str.ofString "less" == Str.ofString "sum")=false/\(Str.ofString "less"=Str.ofString "by")=False/\(Str.ofString "less" == Str.ofString "by")=false/\(Str.ofString "less"=Str.ofString "swap")=False/\(Str.ofString "less" == Str.ofString "swap")=false/\(Str.ofString "less"=Str.ofString "right")=False/\(Str.ofString "less" == Str.ofString "right")=false/\(Str.ofString "less"=Str.ofString "left")=False/\(Str.ofString "less" == Str.ofString "left")=false/\(Str.ofString "less"=Str.ofString "open")=False/\(Str.ofString "less" == Str.ofString "open")=false/\(Str.ofString "less"=Str.ofString "shut")=False/\(Str.ofString "less" == Str.ofString "shut")=false/\(Str.ofString "less"=Str.ofString "off")=False/\(Str.ofString "less" == Str.ofString "off")=false/\(Str.ofString "less"=Str.ofString "piece")=False/\(Str.ofString "less" == Str.ofString "piece")=false/\(Str.ofString "by"=Str.ofString "num")=False/\(Str.ofString "by" == Str.ofString "num")=false/\(Str.ofString "by"=Str.ofString "name")=False/\(Str.ofString "by" == Str.ofString "name")=false/\(Str.ofString "by"=Str.ofString "turn")=False/\(Str.ofString "by" == Str.ofString "turn")=false/\(Str.ofString "by"=Str.ofString "sum")=False/\(Str.ofString "by" == Str.ofString "sum")=false/\(Str.ofString "by"=Str.ofString "less")=False/\(Str.ofString "by" == Str.ofString "less")=false/\(Str.ofString "by"=Str.ofString "swap")=False/\(Str.ofString "by" == Str.ofString "swap")=false/\(Str.ofString "by"=Str.ofString "right")=False/\(Str.ofString "by" == Str.ofString "right")=false/\(Str.ofString "by"=Str.ofString "left")=False/\(Str.ofString "by" == Str.ofString "left")=false/\(Str.ofString "by"=Str.ofString "open")=False/\(Str.ofString "by" == Str.ofString "open")=false/\(Str.ofString "by"=Str.ofString "shut")=False/\(Str.ofString "by" == Str.ofString "shut")=false/\(Str.ofString "by"=Str.ofString "off")=False/\(Str.ofString "by" == Str.ofString "off")=false/\(Str.ofString "by"=Str.ofString "piece")=False/\(Str.ofString "by" == Str.ofString "piece")=false/\(Str.ofString "swap"=Str.ofString "num")=False/\(Str.ofString "swap" == Str.ofString "num")=false/\(Str.ofString "swap"=Str.ofString "name")=False/\(Str.ofString "swap" == Str.ofString "name")=false/\(Str.ofString "swap"=Str.ofString "turn")=False/\(Str.ofString "swap" == Str.ofString "turn")=false/\(Str.ofString "swap"=Str.ofString "sum")=False/\(Str.ofString "swap" == Str.ofString "sum")=false/\(Str.ofString "swap"=Str.ofString "less")=False/\(Str.ofString "swap" == Str.ofString "less")=false/\(Str.ofString "swap"=Str.ofString "by")=False/\(Str.ofString "swap" == Str.ofString "by")=false/\(Str.ofString "swap"=Str.ofString "right")=False/\(Str.ofString "swap" == Str.ofString "right")=false/\(Str.ofString "swap"=Str.ofString "left")=False/\(Str.ofString "swap" == Str.ofString "left")=false/\(Str.ofString "swap"=Str.ofString "open")=False/\(Str.ofString "swap" == Str.ofString "open")=false/\(Str.ofString "swap"=Str.ofString "shut")=False/\(Str.ofString "swap" == Str.ofString "shut")=false/\(Str.ofString "swap"=Str.ofString "off")=False/\(Str.ofString "swap" == Str.ofString "off")=false/\(Str.ofString "swap"=Str.ofString "piece")=False/\(Str.ofString "swap" == Str.ofString "piece")=false/\(Str.ofString "right"=Str.ofString "num")=False/\(Str.ofString "right" == Str.ofString "num")=false/\(Str.ofString "right"=Str.ofString "name")=False/\(Str.ofString "right" == Str.ofString "name")=false/\(Str.ofString "right"=Str.ofString "turn")=False/\(Str.ofString "right" == Str.ofString "turn")=false/\(Str.ofString "right"=Str.ofString "sum")=False/\(Str.ofString "right" == Str.ofString "sum")=false/\(Str.ofString "right"=Str.ofString "less")=False/\(Str.ofString "right" == Str.ofString "less")=false/\(Str.ofString "right"=Str.ofString "by")=False/\(Str.ofString "right" == Str.ofString "by")=false/\(Str.ofString "right"=Str.ofString "swap")=False/\(Str.ofString "right" == Str.ofString "swap")=false/\(Str.ofString "right"=Str.ofString "left")=False/\(Str.ofString "right" == Str.ofString "left")=false/\(Str.ofString "right"=Str.ofString "open")=False/\(Str.ofString "right" == Str.ofString "open")=false/\(Str.ofString "right"=Str.ofString "shut")=False/\(Str.ofString "right" == Str.ofString "shut")=false/\(Str.ofString "right"=Str.ofString "off")=False/\(Str.ofString "right" == Str.ofString "off")=false/\(Str.ofString "right"=Str.ofString "piece")=False/\(Str.ofString "right" == Str.ofString "piece")=false/\(Str.ofString "left"=Str.ofString "num")=False/\(Str.ofString "left" == Str.ofString "num")=false/\(Str.ofString "left"=Str.ofString "name")=False/\(Str.ofString "left" == Str.ofString "name")=false/\(Str.ofString "left"=Str.ofString "turn")=False/\(Str.ofString "left" == Str.ofString "turn")=false/\(Str.ofString "left"=Str.ofString "sum")=False/\(Str.ofString "left" == Str.ofString "sum")=false/\(Str.ofString "left"=Str.ofString "less")=False/\(Str.ofString "left" == Str.ofString "less")=false/\(Str.ofString "left"=Str.ofString "by")=False/\(Str.ofString "left" == Str.ofString "by")=false/\(Str.ofString "left"=Str.ofString "swap")=False/\(Str.ofString "left" == Str.ofString "swap")=false/\(Str.ofString "left"=Str.ofString "right")=False/\(Str.ofString "left" == Str.ofString "right")=false/\(Str.ofString "left"=Str.ofString "open")=False/\(Str.ofString "left" == Str.ofString "open")=false/\(Str.ofString "left"=Str.ofString "shut")=False/\(Str.ofString "left" == Str.ofString "shut")=false/\(Str.ofString "left"=Str.ofString "off")=False/\(Str.ofString "left" == Str.ofString "off")=false/\(Str.ofString "left"=Str.ofString "piece")=False/\(Str.ofString "left" == Str.ofString "piece")=false/\(Str.ofString "open"=Str.ofString "num")=False/\(Str.ofString "open" == Str.ofString "num")=false/\(Str.ofString "open"=Str.ofString "name")=False/\(Str.ofString "open" == Str.ofString "name")=false/\(Str.ofString "open"=Str.ofString "turn")=False/\(Str.ofString "open" == Str.ofString "turn")=false/\(Str.ofString "open"=Str.ofString "sum")=False/\(Str.ofString "open" == Str.ofString "sum")=false/\(Str.ofString "open"=Str.ofString "less")=False/\(Str.ofString "open" == Str.ofString "less")=false/\(Str.ofString "open"=Str.ofString "by")=False/\(Str.ofString "open" == Str.ofString "by")=false/\(Str.ofString "open"=Str.ofString "swap")=False/\(Str.ofString "open" == Str.ofString "swap")=false/\(Str.ofString "open"=Str.ofString "right")=False/\(Str.ofString "open" == Str.ofString "right")=false/\(Str.ofString "open"=Str.ofString "left")=False/\(Str.ofString "open" == Str.ofString "left")=false/\(Str.ofString "open"=Str.ofString "shut")=False/\(Str.ofString "open" == Str.ofString "shut")=false/\(Str.ofString "open"=Str.ofString "off")=False/\(Str.ofString "open" == Str.ofString "off")=false/\(Str.ofString "open"=Str.ofString "piece")=False/\(Str.ofString "open" == Str.ofString "piece")=false/\(Str.ofString "shut"=Str.ofString "num")=False/\(Str.ofString "shut" == Str.ofString "num")=false/\(Str.ofString "shut"=Str.ofString "name")=False/\(Str.ofString "shut" == Str.ofString "name")=false/\(Str.ofString "shut"=Str.ofString "turn")=False/\(Str.ofString "shut" == Str.ofString "turn")=false/\(Str.ofString "shut"=Str.ofString "sum")=False/\(Str.ofString "shut" == Str.ofString "sum")=false/\(Str.ofString "shut"=Str.ofString "less")=False/\(Str.ofString "shut" == Str.ofString "less")=false/\(Str.ofString "shut"=Str.ofString "by")=False/\(Str.ofString "shut" == Str.ofString "by")=false/\(Str.ofString "shut"=Str.ofString "swap")=False/\(Str.ofString "shut" == Str.ofString "swap")=false/\(Str.ofString "shut"=Str.ofString "right")=False/\(Str.ofString "shut" == Str.ofString "right")=false/\(Str.ofString "shut"=Str.ofString "left")=False/\(Str.ofString "shut" == Str.ofString "left")=false/\(Str.ofString "shut"=Str.ofString "open")=False/\(Str.ofString "shut" == Str.ofString "open")=false/\(Str.ofString "shut"=Str.ofString "off")=False/\(Str.ofString "shut" == Str.ofString "off")=false/\(Str.ofString "shut"=Str.ofString "piece")=False/\(Str.ofString "shut" == Str.ofString "piece")=false/\(Str.ofString "off"=Str.ofString "num")=False/\(Str.ofString "off" == Str.ofString "num")=false/\(Str.ofString "off"=Str.ofString "name")=False/\(Str.ofString "off" == Str.ofString "name")=false/\(Str.ofString "off"=Str.ofString "turn")=False/\(Str.ofString "off" == Str.ofString "turn")=false/\(Str.ofString "off"=Str.ofString "sum")=False/\(Str.ofString "off" == Str.ofString "sum")=false/\(Str.ofString "off"=Str.ofString "less")=False/\(Str.ofString "off" == Str.ofString "less")=false/\(Str.ofString "off"=Str.ofString "by")=False/\(Str.ofString "off" == Str.ofString "by")=false/\(Str.ofString "off"=Str.ofString "swap")=False/\(Str.ofString "off" == Str.ofString "swap")=false/\(Str.ofString "off"=Str.ofString "right")=False/\(Str.ofString "off" == Str.ofString "right")=false/\(Str.ofString "off"=Str.ofString "left")=False/\(Str.ofString "off" == Str.ofString "left")=false/\(Str.ofString "off"=Str.ofString "open")=False/\(Str.ofString "off" == Str.ofString "open")=false/\(Str.ofString "off"=Str.ofString "shut")=False/\(Str.ofString "off" == Str.ofString "shut")=false/\(Str.ofString "off"=Str.ofString "piece")=False/\(Str.ofString "off" == Str.ofString "piece")=false/\(Str.ofString "piece"=Str.ofString "num")=False/\(Str.ofString "piece" == Str.ofString "num")=false/\(Str.ofString "piece"=Str.ofString "name")=False/\(Str.ofString "piece" == Str.ofString "name")=false/\(Str.ofString "piece"=Str.ofString "turn")=False/\(Str.ofString "piece" == Str.ofString "turn")=false/\(Str.ofString "piece"=Str.ofString "sum")=False/\(Str.ofString "piece" == Str.ofString "sum")=false/\(Str.ofString "piece"=Str.ofString "less")=False/\(Str.ofString "piece" == Str.ofString "less")=false/\(Str.ofString "piece"=Str.ofString "by")=False/\(Str.ofString "piece" == Str.ofString "by")=false/\(Str.ofString "piece"=Str.ofString "swap")=False/\(Str.ofString "piece" == Str.ofString "swap")=false/\(Str.ofString "piece"=Str.ofString "right")=False/\(Str.ofString "piece" == Str.ofString "right")=false/\(Str.ofString "piece"=Str.ofString "left")=False/\(Str.ofString "piece" == Str.ofString "left")=false/\(Str.ofString "piece"=Str.ofString "open")=False/\(Str.ofString "piece" == Str.ofString "open")=false/\(Str.ofString "piece"=Str.ofString "shut")=False/\(Str.ofString "piece" == Str.ofString "shut")=false/\(Str.ofString "piece"=Str.ofString "off")=False/\(Str.ofString "piece" == Str.ofString "off")=false:=⟨Jt,HC,HF,Jp,MX,Md,HL,Kg,OT,PB,Kv,IE,EH,EM,JE,JJ,Hb,ID,HW,JZ,Mu,MB,Fn,Ex,Hv,HB,D3,EJ,JY,Kn,E5,Ee,MY,KQ,EF,Ew,Bc,BJ,DZ,E4,FO,FF,El,DM,Jq,J9,AY,A7,Hh,Kh,ES,Eu,IH,Ke,En,Fx,Nh,Nb,FV,Ea,BA,Ci,FZ,DT,FQ,FX,Fz,DB,Ih,HV,BH,Co,L7,NF,Ji,KC,Kq,HG,Hj,HA,OG,Pf,J2,IJ,Eo,Ek,Hm,IL,IV,HH,Jw,Kp,ND,LH,DC,EC,Jy,IC,FJ,Fu,DP,DL,JT,Hk,Mg,K5,Fd,Dr,B8,BF,DE,Fm,EZ,E6,D8,Ei,IX,Kb,CZ,C0,Pz,Oa,MR,Lk,LG,LM,NZ,NS,MJ,Ll,Nk,MD,Iz,He,K1,Ls,LK,KW,KY,M8,Pq,Pg,Im,Jj,G4,Ky,EB,FD,DJ,Fc,HE,JK,FI,DW,Lr,Nn,AV,Df,Dx,ER,E7,EG,D9,FA,JP,Jf,CO,Bj,D4,Fv,Ca,By,CQ,BB,EI,FW,Dk,CP,Kz,G3,Bn,B3,Dp,Bk,B5,BU,BW,Bo,Fb,FC,AB,AG,Ip,Jb,Du,F1,FT,Dz,IW,Hw,Ez,DG,MU,Nt,Fh,Eg,Dd,Cv,EW,Ft,EA,E8,J3,JX,BD,Be,Hq,JW,E1,DN,Fi,ET,Hi,Ik,Es,Dt,Ng,MV,Em,Fj,Cf,BX,DV,FL,E2,Eh,Hf,HQ,BP,Bz,HS,I0,D5,DY,DR,oZ,JS,J0,DH,Er,Me,Lf,DK,EK,A2,BC,DF,Ep,DX,EN,Jm,Kf,C3,Cd,M7,Nw,Ja,Ii,G6,Ig,Mw,LA,Kw,JA,NU,N9,II,IU,EL,Et,Je,J4,Jn,JO,Ju,Kc,FU,DQ,Fy,Dv,BO,CB,CI,C7,Fs,Fe,A6,Cc,IS,JL,AR,Dm,Ap,Au,Cj,C4,BM,CN,AU,Bb,FH,Fq⟩
theorem small {n:Nat} (h:n<=100000):n<=sizeLine:=Nat.le_trans h (by decide)
theorem big {k:Nat} (h:k < 100000):k < sizeLine:=Nat.lt_of_lt_of_le h (by decide)
theorem rX (x y:Str):(x++y).cps.toList=x.cps.toList++y.cps.toList:=by
 show (x.cps++y.cps).toList=_
 simp
theorem LR {n:Nat} (h:n<=100000):(n<=sizeLine)=True:=eq_true (small h)
theorem pU {neg:Bool} {i j:Int} {M:aI} {Q:UK}:jX neg (.int i) (.int j) M Q=Q (.bl (if neg then !decide (i=j) else decide (i=j))) M:=rfl
theorem pH {neg:Bool} {i j:Str} {M:aI} {Q:UK}:jX neg (.str i) (.str j) M Q=Q (.bl (if neg then !decide (i=j) else decide (i=j))) M:=rfl
theorem aU {u v:US} {D:kT} {τ:SU} {M:aI} (h:∀ V:SU->aI->Prop,V=v D->u { D with nx:=V } τ M):qP u v D τ M:=h _ rfl
theorem cG {c:UT} {t u:US} {D:kT} {τ:SU} {M:aI} (h:∀ A B:aI->Prop,A=t D τ->B=u D τ->c τ M fun b M1=>if b=true then A M1 else B M1):vQ c t u D τ M:=h _ _ rfl rfl
def lY:dA:=fun us M Q=>∃ (z:Str) (r:List U) (b:Bool),us=[.tup (.str z :: r)]/\(dC eJ z).isSome=b/\r.length<=1000/\Q (.tup (if b then r else [])) M
local macro_rules | `(tactic| simp! only [$xs,*] $[$l]?) => `(tactic| simp only [$xs,*, Bool.false_eq_true, Bool.not_false, Bool.not_true, List.append_nil, List.cons_append, List.getElem?_cons_succ, List.getElem?_cons_zero, List.length_cons, List.length_nil, List.map_cons, List.map_nil, List.nil_append, List.replicate, List.set_cons_succ, List.set_cons_zero, Nat.add_sub_cancel, Nat.reduceAdd, Nat.reduceLeDiff, Nat.reduceSub, Nat.sub_self, Option.getD_some, Option.some.injEq, and_true, CT, Cw, at2, A5, qQ, A1, qO, mH, mD, mU, rM, qF, qN, j1, zT, Ac, Ae, CG, dR, decide_false, decide_true, pU, pH, exists_eq_left', if_false, if_true, sV, gD, cX, cW, dG, cY, dF, cR, eP, eV, fP, eS, fM, dZ, eX, eY, fU, eQ, fN, d9, fY, fS, gP, fR, gQ, eU, e8, eZ, fX, eW, fW, dY, fV, fT, gR, fQ, gO, e7, d7, d8, eT, eD, eR, dQ, items, gC, iU, oJ, iQ, o8, tD, kB, bU, aX, reduceCtorEq, eL, LR, true_and, mW, lZ, rR, fD, uW, rV, uC, pO, nB, mO, j4, kC, nF, tJ, u7, uI, nX, xI, sT, pD, m4, oQ, oB, kG, o6, rE, tB, vO, mR, jO, qX, rH, m8, fC, xK, v7, m7, vS, nE, qY, rD, lB, rL, oX, wJ, iX, vY, m9, lC, kY, lF, j3, kZ, kX] $[$l]?)
local macro_rules | `(tactic| simp? only [$xs,*] $[$l]?) => `(tactic| simp! only [$xs,*, mE, hName, pE, lL, aD, aE, bQ, xP, AJ, hZ, vQ, b7, cE, AN, qP, xD] $[$l]?)
theorem DU (F:b9 K "parts_of" "parts_of" jK f fd) (hm:mg "parts_of"=some (.ref f)) (lN:rJ P w K d eJ) (lV:mg "SIGNS"=some (.ref d)):Callee P w K mg base 1 "parts_of" lY []:=by
 refine bL F hm Fo (g9 fun _ _ _ _ _ _ _=>rfl) (aJ (aZ (uD (bW (Gq lN) (aQ (uv 0) aK) (tN lV)) (gZ (own:=false) (uv 0) (fH aK) fL) (aW aB)))) ?_
 rintro us M Q ⟨z,r,b,rfl,hb,hl,q⟩
 refine ⟨rfl,?_⟩
 simp? only [hb]
 cases b with
 | true =>
  simp? only [vL]
  exact aO q
 | false =>
  simp? only [true_and]
  exact aO q
theorem N4 (F:b9 K "parts" "parts" nJ f fd) (hm:mg "parts"=some (.ref f)) (qB:Callee P w K mg base 1 "parts_of" lY []):Callee P w K mg base 2 "parts" lY []:=by
 refine bL F hm Pu (g9 fun _ _ _ _ _ _ _=>rfl) (aJ (aZ (aV qB (aA (uv 0) aB)))) ?_
 rintro us M Q ⟨z,r,b,rfl,hb,hl,q⟩
 refine ⟨rfl,?_⟩
 simp? only [true_and]
 exact ⟨z,r,b,rfl,hb,hl,aO q⟩
def gB:Tr->Option Tr
 | .two .sum a b=>some (.two .sum b a)
 | .two .by_ a b=>some (.two .by_ b a)
 | _=>none
def cI:Tr->Option Tr
 | .two .sum (.two .sum a b) c=>some (.two .sum a (.two .sum b c))
 | .two .by_ (.two .by_ a b) c=>some (.two .by_ a (.two .by_ b c))
 | _=>none
def eG:Tr->Option Tr
 | .two .sum a (.two .sum b c)=>some (.two .sum (.two .sum a b) c)
 | .two .by_ a (.two .by_ b c)=>some (.two .by_ (.two .by_ a b) c)
 | _=>none
def gI:Tr->Option Tr
 | .two .less a b=>some (.two .sum a (.turn b))
 | _=>none
def fF:Tr->Option Tr
 | .two .sum a (.turn b)=>some (.two .less a b)
 | _=>none
def jW:Tr->Option Tr
 | .turn (.turn a)=>some a
 | _=>none
def tE:Option Tr->U
 | some t=>t.toU
 | none=>.non
def mX (g:Tr->Option Tr):dA:=fun us M Q=>∃ t:Tr,us=[t.toU]/\Q (tE (g t)) M
local macro_rules | `(tactic| dsimp! only [$xs,*] $[$l]?) => `(tactic| simp only [$xs,*, Bool.and_self, Bool.and_true, Bool.false_eq_true, Bool.false_or, Bool.not_false, Bool.not_true, Bool.or_false, Bool.or_self, Bool.or_true, Bool.true_or, List.all_cons, List.all_nil, List.any_cons, List.any_nil, List.append_nil, List.cons_append, List.getElem?_cons_succ, List.getElem?_cons_zero, List.length_cons, List.length_nil, List.map_cons, List.map_nil, List.nil_append, List.replicate, List.set_cons_succ, List.set_cons_zero, Nat.add_sub_cancel, Nat.reduceAdd, Nat.reduceLeDiff, Nat.reduceSub, Nat.sub_self, Op.word, Option.getD_some, Option.some.injEq, Tr.toU, and_true, CT, Cw, at2, A5, qQ, A1, qO, mH, mD, mU, rM, qF, qN, j1, beq_self_eq_true, zT, Ac, Ae, CG, dR, decide_false, decide_true, nP, pU, pH, exists_eq_left', gU, mE, hName, pE, lL, if_false, if_true, sV, gD, aD, cX, cW, dG, cY, dF, cR, eP, eV, fP, eS, fM, dZ, eX, eY, fU, eQ, fN, d9, fY, fS, gP, fR, gQ, eU, e8, eZ, fX, eW, fW, dY, fV, fT, gR, fQ, gO, e7, d7, d8, eT, eD, eR, dQ, items, gC, iU, oJ, iQ, o8, tD, kB, bU, aX, tE, reduceCtorEq, eL, LR, true_and, aE, mW, lZ, rR, fD, bQ, uW, rV, xP, uC, pO, nB, mO, j4, kC, AJ, hZ, nF, tJ, u7, uI, nX, xI, vQ, sT, pD, m4, oQ, oB, kG, o6, rE, tB, vO, b7, mR, jO, qX, rH, m8, fC, xK, v7, m7, cE, AN, vS, nE, qY, qP, xD, rD, lB, rL, oX, wJ, iX, vY, m9, lC, kY, lF, j3, kZ, kX, wx] $[$l]?)
theorem xV (F:b9 K "turned_about" "turned_about" fK f fd) (hm:mg "turned_about"=some (.ref f)):Callee P w K mg base 1 "turned_about" (mX gB) []:=by
 refine bL F hm xH (g9 fun _ _ _ _ _ _ _=>rfl) (aJ (aZ (uD (bW Te (aQ (uv 0) aK) (aW (aA bR (aA bR aB)))) (aW (aA (aQ (uv 0) aK) (aA (aQ (uv 0) aK) (aA (aQ (uv 0) aK) aB)))) nY))) ?_
 rintro us M Q ⟨t,rfl,q⟩
 refine ⟨rfl,?_⟩
 cases t with
 | num n=>(dsimp! only [gB] at q ⊢;exact aO q)
 | name x=>(dsimp! only [gB] at q ⊢;exact aO q)
 | turn a=>(dsimp! only [gB] at q ⊢;exact aO q)
 | two o a b=>cases o <;> (dsimp! only [gB] at q ⊢;exact aO q)
theorem wR (F:b9 K "to_the_right" "to_the_right" fG f fd) (hm:mg "to_the_right"=some (.ref f)):Callee P w K mg base 1 "to_the_right" (mX cI) []:=by
 refine bL F hm w9 (g9 fun _ _ _ _ _ _ _=>rfl) (aH (bY (iJ.pt (jH (bW y6 (aQ (uv 0) aK) (aW (aA bR (aA bR aB)))) (j8 (bW uO (aQ (aQ (uv 0) aK) aK) (aQ (uv 0) aK)))))
 (aJ (aZ nY))
 bH)
 (aJ (aZ (aW (aA (aQ (uv 0) aK) (aA (aQ (aQ (uv 0) aK) aK) (aA (aW (aA (aQ (uv 0) aK) (aA (aQ (aQ (uv 0) aK) aK) (aA (aQ (uv 0) aK) aB)))) aB))))))) ?_
 rintro us M Q ⟨t,rfl,q⟩
 refine ⟨rfl,?_⟩
 cases t with
 | num n=>(dsimp! only [cI] at q ⊢;exact aO q)
 | name x=>(dsimp! only [cI] at q ⊢;exact aO q)
 | turn a=>(dsimp! only [cI] at q ⊢;exact aO q)
 | two o a b=>cases o <;> cases a <;> first | (dsimp! only [cI] at q ⊢;exact aO q) | (rename_i o2 _ _;cases o2 <;> (dsimp! only [cI] at q ⊢;exact aO q))
theorem yT (F:b9 K "to_the_left" "to_the_left" gG f fd) (hm:mg "to_the_left"=some (.ref f)):Callee P w K mg base 1 "to_the_left" (mX eG) []:=by
 refine bL F hm zB (g9 fun _ _ _ _ _ _ _=>rfl) (aH (bY (iJ.pt (jH (bW y6 (aQ (uv 0) aK) (aW (aA bR (aA bR aB)))) (j8 (bW uO (aQ (aQ (uv 0) aK) aK) (aQ (uv 0) aK)))))
 (aJ (aZ nY))
 bH)
 (aJ (aZ (aW (aA (aQ (uv 0) aK) (aA (aW (aA (aQ (uv 0) aK) (aA (aQ (uv 0) aK) (aA (aQ (aQ (uv 0) aK) aK) aB)))) (aA (aQ (aQ (uv 0) aK) aK) aB))))))) ?_
 rintro us M Q ⟨t,rfl,q⟩
 refine ⟨rfl,?_⟩
 cases t with
 | num n=>(dsimp! only [eG] at q ⊢;exact aO q)
 | name x=>(dsimp! only [eG] at q ⊢;exact aO q)
 | turn a=>(dsimp! only [eG] at q ⊢;exact aO q)
 | two o a b=>cases o <;> cases b <;> first | (dsimp! only [eG] at q ⊢;exact aO q) | (rename_i o2 _ _;cases o2 <;> (dsimp! only [eG] at q ⊢;exact aO q))
theorem yI (F:b9 K "opened_less" "opened_less" gF f fd) (hm:mg "opened_less"=some (.ref f)):Callee P w K mg base 1 "opened_less" (mX gI) []:=by
 refine bL F hm yF (g9 fun _ _ _ _ _ _ _=>rfl) (aJ (aZ (uD (bW cM (aQ (uv 0) aK) bR) (aW (aA bR (aA (aQ (uv 0) aK) (aA (aW (aA bR (aA (aQ (uv 0) aK) aB))) aB)))) nY))) ?_
 rintro us M Q ⟨t,rfl,q⟩
 refine ⟨rfl,?_⟩
 cases t with
 | num n=>(dsimp! only [gI] at q ⊢;exact aO q)
 | name x=>(dsimp! only [gI] at q ⊢;exact aO q)
 | turn a=>(dsimp! only [gI] at q ⊢;exact aO q)
 | two o a b=>cases o <;> (dsimp! only [gI] at q ⊢;exact aO q)
theorem Dh (F:b9 K "shut_turn" "shut_turn" iK f fd) (hm:mg "shut_turn"=some (.ref f)):Callee P w K mg base 1 "shut_turn" (mX fF) []:=by
 refine bL F hm Cs (g9 fun _ _ _ _ _ _ _=>rfl) (aJ (aZ (uD (iJ.pt (nS (bW cM (aQ (uv 0) aK) bR) (lP (bW cM (aQ (aQ (uv 0) aK) aK) bR)))) (aW (aA bR (aA (aQ (uv 0) aK) (aA (aQ (aQ (uv 0) aK) aK) aB)))) nY))) ?_
 rintro us M Q ⟨t,rfl,q⟩
 refine ⟨rfl,?_⟩
 cases t with
 | num n=>(dsimp! only [fF] at q ⊢;exact aO q)
 | name x=>(dsimp! only [fF] at q ⊢;exact aO q)
 | turn a=>(dsimp! only [fF] at q ⊢;exact aO q)
 | two o a b=>cases o <;> cases b <;> first | (dsimp! only [fF] at q ⊢;exact aO q) | (rename_i o2 _ _;cases o2 <;> (dsimp! only [fF] at q ⊢;exact aO q))
theorem vP (F:b9 K "without_turns" "without_turns" eN f fd) (hm:mg "without_turns"=some (.ref f)):Callee P w K mg base 1 "without_turns" (mX jW) []:=by
 refine bL F hm vE (g9 fun _ _ _ _ _ _ _=>rfl) (aJ (aZ (uD (iJ.pt (nS (bW cM (aQ (uv 0) aK) bR) (lP (bW cM (aQ (aQ (uv 0) aK) aK) bR)))) (aQ (aQ (uv 0) aK) aK) nY))) ?_
 rintro us M Q ⟨t,rfl,q⟩
 refine ⟨rfl,?_⟩
 cases t with
 | num n=>(dsimp! only [jW] at q ⊢;exact aO q)
 | name x=>(dsimp! only [jW] at q ⊢;exact aO q)
 | turn a=>cases a <;> first | (dsimp! only [jW] at q ⊢;exact aO q) | (rename_i o2 _ _;cases o2 <;> (dsimp! only [jW] at q ⊢;exact aO q))
 | two o a b=>cases o <;> (dsimp! only [jW] at q ⊢;exact aO q)
def Tr.at:Tr->List Nat->Option Tr
 | t,[]=>some t
 | .turn a,0 :: r=>a.at r
 | .two _ a _,0 :: r=>a.at r
 | .two _ _ b,1 :: r=>b.at r
 | _,_=>none
theorem cH (t:Tr):t.at []=some t:=by cases t <;> rfl
theorem mI:∀ (t:Tr) (p e:List Nat) (t':Tr),t.at p=some t'->t.at (p++e)=t'.at e
 | t,[],e,t',h=>by rw [cH] at h;cases h;rfl
 | .turn a,0 :: r,e,t',h=>mI a r e t' h
 | .two _ a b,0 :: r,e,t',h=>mI a r e t' h
 | .two _ a b,1 :: r,e,t',h=>mI b r e t' h
 | .turn _,(n + 1) :: r,_,_,h=>by simp [Tr.at] at h
 | .two _ _ _,(n + 2) :: r,_,_,h=>by simp [Tr.at] at h
 | .num _,n :: r,_,_,h=>by simp [Tr.at] at h
 | .name _,n :: r,_,_,h=>by simp [Tr.at] at h
inductive Wo where
 | swap | right | left | open_ | shut | off
def Wo.word:Wo->Str
 | .swap=>"swap" | .right=>"right" | .left=>"left" | .open_=>"open" | .shut=>"shut" | .off=>"off"
def Wo.chg:Wo->Tr->Option Tr
 | .swap=>gB | .right=>cI | .left=>eG | .open_=>gI | .shut=>fF | .off=>jW
def Ag:dA:=fun us M Q=>∃ (t:Tr) (o:Wo),us=[t.toU,.str o.word]/\Q (tE (o.chg t)) M
theorem IK (F:b9 K "changed" "changed" kI f fd) (hm:mg "changed"=some (.ref f)) (yE:Callee P w K mg base 1 "turned_about" (mX gB) []) (yG:Callee P w K mg base 1 "to_the_right" (mX cI) []) (AA:Callee P w K mg base 1 "to_the_left" (mX eG) []) (Ay:Callee P w K mg base 1 "opened_less" (mX gI) []) (EY:Callee P w K mg base 1 "shut_turn" (mX fF) []) (w5:Callee P w K mg base 1 "without_turns" (mX jW) []):Callee P w K mg base 2 "changed" Ag []:=by
 refine bL F hm Kk (r0 fun _ _ _ _ _ _ _ _=>rfl) (aH (bY (bW cM (uv 1) bR)
 (aJ (aZ (aV yE (aA (uv 0) aB))))
 bH)
 (aH (bY (bW cM (uv 1) bR)
 (aJ (aZ (aV yG (aA (uv 0) aB))))
 bH)
 (aH (bY (bW cM (uv 1) bR)
 (aJ (aZ (aV AA (aA (uv 0) aB))))
 bH)
 (aH (bY (bW cM (uv 1) bR)
 (aJ (aZ (aV Ay (aA (uv 0) aB))))
 bH)
 (aH (bY (bW cM (uv 1) bR)
 (aJ (aZ (aV EY (aA (uv 0) aB))))
 bH)
 (aJ (aZ (aV w5 (aA (uv 0) aB))))))))) ?_
 rintro us M Q ⟨t,o,rfl,q⟩
 refine ⟨rfl,?_⟩
 cases o <;> (simp? only [Wo.word,Wo.chg,wx,nP,gU,List.all_cons,List.all_nil,List.any_cons,List.any_nil,beq_self_eq_true,Bool.or_false,Bool.or_true,Bool.and_true,Bool.true_or,Bool.false_or,Bool.and_self,Bool.or_self] at q ⊢;exact ⟨t,rfl,aO q⟩)
def bZ:Tr->List Nat->Tr->Tr
 | _,[],x=>x
 | .turn a,0 :: r,x=>.turn (bZ a r x)
 | .two o a b,0 :: r,x=>.two o (bZ a r x) b
 | .two o a b,1 :: r,x=>.two o a (bZ b r x)
 | t,_,_=>t
theorem pV (t x:Tr):bZ t [] x=x:=by cases t <;> rfl
def Ua (t:Tr) (k:Nat) (x:Tr):Tr:=match t,k with
 | .turn _,0=>.turn x
 | .two o _ b,0=>.two o x b
 | .two o a _,1=>.two o a x
 | t,_=>t
theorem Bm {t a:Tr} {k:Nat} (h:t.parts[k]?=some a) (r:List Nat) (x:Tr):bZ t (k :: r) x=Ua t k (bZ a r x):=by
 cases t with
 | turn b =>
  match k,h with
  | 0,h=>cases h;rfl
  | k + 1,h=>simp [Tr.parts] at h
 | two o b c =>
  match k,h with
  | 0,h=>cases h;rfl
  | 1,h=>cases h;rfl
  | k + 2,h=>simp [Tr.parts] at h
 | num n=>simp [Tr.parts] at h
 | name x=>simp [Tr.parts] at h
theorem S0 (t:Tr) (k:Nat):t.at [k]=t.parts[k]?:=by
 cases t with
 | turn b=>match k with
  | 0=>simp [Tr.at,Tr.parts,cH]
  | k + 1=>simp [Tr.at,Tr.parts]
 | two o b c=>match k with
  | 0=>simp [Tr.at,Tr.parts,cH]
  | 1=>simp [Tr.at,Tr.parts,cH]
  | k + 2=>simp [Tr.at,Tr.parts]
 | num n=>simp [Tr.at,Tr.parts]
 | name x=>simp [Tr.at,Tr.parts]
theorem tU {t a:Tr} {p:List Nat} (ht:t.at p=some a):∀ i,i < p.length->∃ b c,t.at (p.take i)=some b/\t.at (p.take (i + 1))=some c/\b.parts[p[i]?.getD 0]?=some c:=by
 intro i hi
 have h1:p.take i++p.drop i=p:=List.take_append_drop i p
 have pre:∀ (q r:List Nat) (s:Tr),s.at (q++r)≠none->s.at q≠none:=by
  intro q
  induction q with
  | nil=>intro r s _;rw [cH];simp
  | cons k q ih =>
   intro r s h
   cases s with
   | turn b=>match k,h with
    | 0,h=>exact ih r b h
    | k + 1,h=>simp [Tr.at] at h
   | two o b c=>match k,h with
    | 0,h=>exact ih r b h
    | 1,h=>exact ih r c h
    | k + 2,h=>simp [Tr.at] at h
   | num n=>simp [Tr.at] at h
   | name x=>simp [Tr.at] at h
 have get:∀ j,∃ b,t.at (p.take j)=some b:=fun j=>by
  have:=pre (p.take j) (p.drop j) t (by rw [List.take_append_drop,ht];simp)
  exact Option.ne_none_iff_exists'.mp this
 obtain ⟨b,hb⟩:=get i
 obtain ⟨c,hc⟩:=get (i + 1)
 refine ⟨b,c,hb,hc,?_⟩
 have e:p.take (i + 1)=p.take i++[p[i]]:=by rw [List.take_add_one,List.getElem?_eq_getElem hi];rfl
 rw [e,mI t (p.take i) [p[i]] b hb,S0] at hc
 rw [List.getElem?_eq_getElem hi]
 exact hc
theorem vH {t a:Tr} {k:Nat} (h:t.parts[k]?=some a):∃ z,t.toU=.tup (.str z :: t.parts.map Tr.toU)/\(dC eJ z).isSome=true/\t.parts.length<=2:=by
 cases t with
 | num n=>simp [Tr.parts] at h
 | name x=>simp [Tr.parts] at h
 | turn a=>exact ⟨"turn",rfl,by decide +kernel,by simp [Tr.parts]⟩
 | two o a b=>exact ⟨o.word,rfl,by cases o <;> decide +kernel,by simp [Tr.parts]⟩
def QB:dA:=fun us M Q=>∃ (t a x:Tr) (p:List Nat),us=[t.toU,bI p,x.toU]/\t.at p=some a/\p.length<=1000/\Q (bZ t p x).toU M
theorem Ak {xs:List U} {a:U}:eF (xs++[a]) (-1)=some a:=by
 unfold eF u6
 rw [if_neg (by omega),if_pos (by simp;omega)]
 have e:(-1 + ((xs++[a]).length:Int)).toNat=xs.length:=by simp;omega
 simp only [Option.bind_some]
 rw [e]
 simp
theorem uK {α:Type} (l:List α) (a b:Option Int):(eA l a b).length<=l.length:=by
 unfold eA
 rw [List.length_take,List.length_drop]
 omega
theorem F3 (t x:Tr) (k:Nat) {a:Tr} (h:t.parts[k]?=some a):∃ z,t.toU=.tup (.str z :: t.parts.map Tr.toU)/\(Ua t k x).toU=.tup (eA (.str z :: t.parts.map Tr.toU) none (some (1 + (k:Int)))++[x.toU]++eA (.str z :: t.parts.map Tr.toU) (some (2 + (k:Int))) none):=by
 cases t with
 | num n=>simp [Tr.parts] at h
 | name x=>simp [Tr.parts] at h
 | turn a=>match k,h with
  | 0,h=>exact ⟨"turn",rfl,rfl⟩
  | k + 1,h=>simp [Tr.parts] at h
 | two o a b=>match k,h with
  | 0,h=>exact ⟨o.word,rfl,rfl⟩
  | 1,h=>exact ⟨o.word,rfl,rfl⟩
  | k + 2,h=>simp [Tr.parts] at h
theorem MP (F:b9 K "put_at" "put_at" lQ f fd) (hm:mg "put_at"=some (.ref f)) (Bw:mg "list"=none) (JR:mg "zip"=none) (qG:mg "reversed"=none) (uA:Callee P w K mg base 2 "parts" lY []):Callee P w K mg base 3 "put_at" QB []:=by
 refine bL F hm i8 (Qa fun _ _ _ _ _ _ _ _ _=>rfl) (aH (bF 3 i8.nd (dI (own:=true) (aA (uv 0) aB)))
 (aH (gK (fB (uv 1)) (bX (k:=1000) 4 i8.nd)
 (aJ (iM (gM (uv 3) (aA (aQ (aV uA (aA (aQ (uv 3) (yA aK)) aB)) (uv 4)) aB)))))
 (aH (bF 5 i8.nd (uv 2))
 (aH (gK (EO qG (aA (Hx (own:=false) Bw JR (aA (uv 1) (aA (uv 3) aB))) aB)) (xJ (n:=2) (jC (bX (k:=1000) 4 i8.nd) (jC (bX (k:=1000) 6 i8.nd) tV)))
 (aJ (bF 5 i8.nd (bV (own:=false) (bV (own:=false) (gZ (own:=false) (uv 6) fL (fH (bV (own:=false) aK (uv 4)))) (aW (aA (uv 5) aB))) (gZ (own:=false) (uv 6) (fH (bV (own:=false) aK (uv 4))) fL)))))
 (aJ (aZ (uv 5))))))) ?_
 rintro us M Q ⟨t,a,x,p,rfl,ht,hpl,q⟩
 refine ⟨rfl,?_⟩
 have hst:=tU ht
 let ab:Nat->U:=fun i=>match t.at (p.take i) with | some b=>b.toU | none=>.non
 have ab0:ab 0=t.toU:=by show (match t.at (p.take 0) with | some b=>b.toU | none=>.non)=_;rw [List.take_zero,cH]
 have abS:∀ i b,t.at (p.take i)=some b->ab i=b.toU:=fun i b h=>by show (match t.at (p.take i) with | some b=>b.toU | none=>.non)=_;rw [h]
 refine aU fun V hV=>?_
 simp! only [bQ,hName,aE,aD]
 intro r hr
 subst hV
 refine aU fun V hV=>?_
 refine gY (S:=⟨none,p.map fun (n:Nat)=>U.int (n:Int)⟩) (M1:=mup M r (.lst [t.toU])) (fun R r=>by simp! only [bI,aE,aD];exact r)
  (fun i τ Mi=>∃ z4:Option U,τ=[some t.toU,some (bI p),some x.toU,some (.ref r),z4,none,none]/\Mi=mup M r (.lst ((List.range (i + 1)).map ab))) ⟨none,rfl,by rw [show List.range (0 + 1)=[0] from rfl];simp only [List.map_cons,List.map_nil,ab0]⟩ nk ?_ ?_
 ·rintro i u τ Mi e ⟨z4,rfl,rfl⟩
  have e':(p.map fun (n:Nat)=>U.int (n:Int))[i]?=some u:=e
  rw [List.getElem?_map] at e'
  cases hk:p[i]? with
  | none=>rw [hk] at e';cases e'
  | some k =>
   rw [hk] at e'
   cases e'
   have hi:=(List.getElem?_eq_some_iff.mp hk).1
   obtain ⟨b,c,hb,hc,hbc⟩:=hst i hi
   rw [hk] at hbc
   obtain ⟨z,hz,hsg,hl2⟩:=vH hbc
   have hrg:(List.range (i + 1)).map ab=(List.range i).map ab++[b.toU]:=by rw [List.range_succ,List.map_append,List.map_cons,List.map_nil,abS i b hb]
   have hrg2:(List.range (i + 1 + 1)).map ab=(List.range (i + 1)).map ab++[c.toU]:=by rw [List.range_succ (n:=i + 1),List.map_append,List.map_cons,List.map_nil,abS (i + 1) c hc]
   simp! only [hZ,hName,aE,aD]
   have hat:eF (b.parts.map Tr.toU) (k:Int)=some c.toU:=eC (by rw [List.getElem?_map];rw [show b.parts[k]?=some c from hbc];rfl)
   refine ⟨⟨_,jA aX⟩,b.toU,by rw [hrg];exact Ak,z,b.parts.map Tr.toU,true,by rw [hz],hsg,by rw [List.length_map];omega,?_⟩
   simp! only [hat,aE,aD]
   refine ⟨big (by rw [List.length_map,List.length_range];omega),_,rfl,?_⟩
   rw [hrg2]
 ·rintro τ Mi ⟨z4,rfl,rfl⟩
  show V _ _
  have hlen:(Src.mk none (p.map fun (n:Nat)=>U.int (n:Int))).xs.length=p.length:=by show (p.map _).length=_;rw [List.length_map]
  rw [hlen]
  have vr:view (mup M r (.lst ((List.range (p.length + 1)).map ab))) (.ref r)=.lst ((List.range (p.length + 1)).map ab):=jA aX
  generalize hMM:mup M r (.lst ((List.range (p.length + 1)).map ab))=MM at vr
  have hSub:Sub M MM:=by rw [<- hMM];exact (Sub.refl M).mup hr
  have hzg:∀ i,i < p.length->(gN (p.map fun (n:Nat)=>U.int (n:Int)) ((List.range (p.length + 1)).map ab))[i]?=some (.tup [.int ((p[i]?.getD 0:Nat):Int),ab i]):=fun i hi=>by
   rw [pZ,List.getElem?_map]
   have:((p.map fun (n:Nat)=>U.int (n:Int)).zip ((List.range (p.length + 1)).map ab))[i]?=some (.int ((p[i]?.getD 0:Nat):Int),ab i):=by
    rw [List.getElem?_zip_eq_some]
    refine ⟨by rw [List.getElem?_map,List.getElem?_eq_getElem hi];rfl,by rw [List.getElem?_map,List.getElem?_range (by omega)];rfl⟩
   rw [this];rfl
  have hzl:(gN (p.map fun (n:Nat)=>U.int (n:Int)) ((List.range (p.length + 1)).map ab)).length=p.length:=by
   rw [wH,List.length_map,List.length_map,List.length_range];omega
  subst hV
  refine aU fun V hV=>?_
  simp! only [bQ,hName,aE,aD]
  subst hV
  refine aU fun V hV=>?_
  refine gY (S:=⟨none,(gN (p.map fun (n:Nat)=>U.int (n:Int)) ((List.range (p.length + 1)).map ab)).reverse⟩) (M1:=MM) (fun R r=>by simp! only [bI,vr,aE,aD];exact r)
   (fun i τ Mi=>∃ (z4 z6:Option U) (b:Tr),t.at (p.take (p.length - i))=some b/\τ=[some t.toU,some (bI p),some x.toU,some (.ref r),z4,some (bZ b (p.drop (p.length - i)) x).toU,z6]/\Mi=MM) ⟨_,_,a,by rw [Nat.sub_zero,List.take_length];exact ht,by rw [Nat.sub_zero,List.drop_length,pV],rfl⟩ nk ?_ ?_
  ·rintro i u τ Mi e ⟨z4',z6,c,hc,rfl,rfl⟩
   have e':(gN (p.map fun (n:Nat)=>U.int (n:Int)) ((List.range (p.length + 1)).map ab)).reverse[i]?=some u:=e
   have hi:i < p.length:=by
    have:=(List.getElem?_eq_some_iff.mp e').1
    rw [List.length_reverse,hzl] at this;exact this
   rw [List.getElem?_reverse (by rw [hzl];exact hi),hzl,hzg _ (by omega)] at e'
   cases e'
   obtain ⟨b,c',hb,hc',hbc⟩:=hst (p.length - 1 - i) (by omega)
   have hidx:p.length - 1 - i + 1=p.length - i:=by omega
   rw [hidx,hc] at hc'
   cases hc'
   generalize hkk:p[p.length - 1 - i]?.getD 0=k at hbc
   obtain ⟨z,hz,hset⟩:=F3 b (bZ c (p.drop (p.length - i)) x) k hbc
   have hl2:b.parts.length<=2:=(vH hbc).choose_spec.2.2
   have hdrop:p.drop (p.length - 1 - i)=k :: p.drop (p.length - i):=by
    rw [List.drop_eq_getElem_cons (show p.length - 1 - i < p.length by omega),hidx]
    congr 1
    rw [<- hkk,List.getElem?_eq_getElem (show p.length - 1 - i < p.length by omega)];rfl
   refine ⟨rfl,?_⟩
   simp! only [lL,mE,pE,bQ,hName,abS _ b hb,hz,aE,aD]
   have c1:=uK (U.str z :: b.parts.map Tr.toU) none (some (1 + (k:Int)))
   have c2:=uK (U.str z :: b.parts.map Tr.toU) (some (2 + (k:Int))) none
   rw [List.length_cons,List.length_map] at c1 c2
   refine ⟨small (by omega),small (by rw [List.length_append,List.length_cons,List.length_nil];omega),some (.int (k:Int)),some (.tup (.str z :: b.parts.map Tr.toU)),b,by rw [show p.length - (i + 1)=p.length - 1 - i by omega];exact hb,?_⟩
   rw [show p.length - (i + 1)=p.length - 1 - i by omega,hdrop,Bm hbc,hset]
  ·rintro τ Mi ⟨z4',z6,b,hb,rfl,rfl⟩
   subst hV
   have hl:(Src.mk none (gN (p.map fun (n:Nat)=>U.int (n:Int)) ((List.range (p.length + 1)).map ab)).reverse).xs.length=p.length:=by show (List.reverse _).length=_;rw [List.length_reverse,hzl]
   rw [hl,Nat.sub_self,List.take_zero,cH] at hb
   cases hb
   simp! only [cE,hl,List.drop_zero,aE,aD]
   exact ⟨_,M,hSub,.inl rfl,q⟩
end
end K86
namespace U2
open PySem PySem.Spec PyProof.Rows L2
theorem Bh {K:PySem.W.Frag} {H:Hp} {M:aI}:∀ ws:List Str,aS K H M (ws.map U.str) (ws.map V.str)
 | []=>.nil
 | w :: ws=>.cons iD (Bh ws)
end U2
namespace K86
open PySem L2 U2
section
variable {P:Program} {w:World} {K:PySem.W.Frag} {mg:Str->Option Value} {base:Heap} {f d d2 fl:Addr} {fd:FuncData}
def j0 (M:aI) (t r:Addr) (T R:List U):aI:=mup (mup M t (.lst T)) r (.lst R)
theorem W8 {M:aI} {t r:Addr} {T R:List U}:j0 M t r T R r=some (.lst R):=aX
mutual
def G2:U->Nat
 | .tup us=>C8 us
 | _=>0
def C8:List U->Nat
 | []=>0
 | _ :: r=>1 + zE r
def zE:List U->Nat
 | []=>0
 | u :: r=>G2 u + zE r
end
theorem yW:∀ t:Tr,G2 t.toU=t.size
 | .num n=>by simp [Tr.toU,G2,C8,zE,Tr.size]
 | .name x=>by simp [Tr.toU,G2,C8,zE,Tr.size]
 | .turn a=>by simp [Tr.toU,G2,C8,zE,Tr.size,yW a];omega
 | .two o a b=>by simp [Tr.toU,G2,C8,zE,Tr.size,yW a,yW b];omega
def Gx:List Wo:=[.swap,.right,.left,.open_,.shut,.off]
def j5 (t:Tr) (e:List Nat × Tr):List (Wo × List Nat × Tr):=Gx.filterMap fun o=>(o.chg e.2).map fun x=>(o,e.1,bZ t e.1 x)
def rB (k:Nat) (p:List Nat):List Tr->List (List Nat × Tr)
 | []=>[]
 | a :: r=>(p++[k],a) :: rB (k + 1) p r
def cF (p:List Nat):Tr->List (List Nat × Tr)
 | .turn a=>(p,.turn a) :: cF (p++[0]) a
 | .two o a b=>(p,.two o a b) :: (cF (p++[0]) a++cF (p++[1]) b)
 | t=>[(p,t)]
theorem W4 (p:List Nat) (t:Tr):cF p t=(p,t) :: (rB 0 p t.parts).flatMap fun e=>cF e.1 e.2:=by
 cases t <;> simp [cF,Tr.parts,rB]
def pA (t:Tr):List (Wo × List Nat × Tr):=(cF [] t).flatMap (j5 t)
def W9 (e:List Nat × Tr):U:=.tup [bI e.1,e.2.toU]
def gE (e:Wo × List Nat × Tr):U:=.tup [.tup [.str e.1.word,bI e.2.1],e.2.2.toU]
def Xf (st:List (List Nat × Tr)):Nat:=(st.map fun e=>e.2.size).sum
theorem xU (t:Tr):t.size=1 + (t.parts.map Tr.size).sum:=by cases t <;> simp [Tr.size,Tr.parts] <;> omega
theorem lS:∀ (t:Tr) (p:List Nat) (a:Tr),t.at p=some a->p.length < t.size
 | t,[],a,_=>by cases t <;> simp [Tr.size]
 | .turn b,0 :: r,a,h=>by have:=lS b r a h;simp only [Tr.size,List.length_cons];omega
 | .two _ b c,0 :: r,a,h=>by have:=lS b r a h;simp only [Tr.size,List.length_cons];omega
 | .two _ b c,1 :: r,a,h=>by have:=lS c r a h;simp only [Tr.size,List.length_cons];omega
 | .num _,_ :: _,a,h=>by simp [Tr.at] at h
 | .name _,_ :: _,a,h=>by simp [Tr.at] at h
 | .turn b,(k + 1) :: r,a,h=>by simp [Tr.at] at h
 | .two _ b c,(k + 2) :: r,a,h=>by simp [Tr.at] at h
theorem OS (p:List Nat):∀ (l:List Tr) (k i:Nat) (a:Tr),l[i]?=some a->(rB k p l)[i]?=some (p++[k + i],a)
 | [],_,_,_,h=>by cases h
 | b :: r,k,0,a,h=>by cases h;rfl
 | b :: r,k,i + 1,a,h=>by
  show (rB (k + 1) p r)[i]?=_
  rw [OS p r (k + 1) i a h,show k + 1 + i=k + (i + 1) by omega]
theorem N7 (p:List Nat):∀ (l:List Tr) (k:Nat),(rB k p l).length=l.length
 | [],_=>rfl
 | a :: r,k=>by simp only [rB,List.length_cons,N7 p r (k + 1)]
theorem AX (t:Tr) (e:List Nat × Tr):(j5 t e).length<=6:=List.length_filterMap_le _ _
theorem pS:∀ (t:Tr) (p:List Nat),(cF p t).length=t.size
 | .turn a,p=>by simp only [cF,List.length_cons,pS a,Tr.size]
 | .two o a b,p=>by simp only [cF,List.length_cons,List.length_append,pS a,pS b,Tr.size]
 | .num n,p=>rfl
 | .name x,p=>rfl
theorem Ck (t:Tr):∀ l:List (List Nat × Tr),(l.flatMap (j5 t)).length<=6 * l.length
 | []=>by simp
 | e :: l=>by
  have h1:=Ck t l
  have h2:=AX t e
  rw [List.flatMap_cons,List.length_append,List.length_cons];omega
def sU:List Str:=Gx.map Wo.word
def Ab:Str:="abcdefghijklmnopqrstuvwxyz"
def isLetter (c:Nat):Bool:=!(Builtin.Str.occurrences Ab ⟨#[c]⟩ 0 Ab.length 1).isEmpty
def isName:U->Bool
 | .str z=>decide (1<=z.length) && decide (z.length<=8) && z.cps.toList.all isLetter
 | _=>false
def GA:U->Prop
 | .str z=>z.length<=sizeLine
 | .ref _=>False
 | .ty _=>False
 | _=>True
def LW:dA:=fun us M Q=>∃ x,us=[x]/\GA x/\Q (.bl (isName x)) M
theorem LD {z:Str} {x:U} (h:x∈chars z):∃ c,x=.str ⟨#[c]⟩:=by
 obtain ⟨c,_,e⟩:=List.mem_map.mp h
 exact ⟨c,e.symm⟩
theorem Ly (z:Str):(chars z).length=z.length:=by simp [chars,Str.length]
def Iv:U->Option U
 | .str y=>some (.bl (!(Builtin.Str.occurrences Ab y 0 Ab.length 1).isEmpty))
 | _=>none
theorem SV:∀ l:List Nat,sS ((l.map fun c=>U.str ⟨#[c]⟩).filterMap Iv)=some (l.map isLetter)
 | []=>rfl
 | c :: r=>by
  have:=SV r
  simp only [List.map_cons,List.filterMap_cons,Iv] at this ⊢
  simp only [sS,this,Option.map_some]
  rfl
local macro_rules | `(tactic| simp_all! only [$xs,*]) => `(tactic| simp only [$xs,*, Bool.false_eq_true, Bool.not_false, Bool.not_true, List.append_nil, List.cons_append, List.getElem?_cons_succ, List.getElem?_cons_zero, List.length_cons, List.length_nil, List.map_cons, List.map_nil, List.nil_append, List.replicate, List.set_cons_succ, List.set_cons_zero, Nat.add_sub_cancel, Nat.reduceAdd, Nat.reduceSub, Nat.sub_self, Option.some.injEq, and_true, CT, Cw, at2, A5, qQ, qO, mH, mD, mU, rM, qF, qN, j1, zT, Ac, Ae, CG, dR, decide_false, decide_true, zO, exists_eq_left', mE, hName, pE, lL, if_false, if_true, sV, aD, cX, cW, dG, cY, dF, cR, eP, eV, fP, eS, fM, dZ, eX, eY, fU, eQ, fN, d9, fY, fS, gP, fR, gQ, eU, e8, eZ, fX, eW, fW, dY, fV, fT, gR, fQ, gO, e7, d7, d8, eT, eD, eR, dQ, items, iU, oJ, iQ, o8, kB, reduceCtorEq, eL, true_and, aE, mW, lZ, rR, bQ, uW, rV, xP, uC, pO, nB, mO, j4, kC, AJ, hZ, nF, JV, u7, jX, uI, nX, xI, vQ, sT, pD, m4, oQ, o6, rE, vO, b7, mR, jO, qX, rH, m8, fC, xK, v7, m7, cE, AN, nE, qY, qP, rD, lB, rL, oX, wJ, iX, vY])
theorem Ij {t1 t2:Tok} (F:b9 K "is_name" "is_name" kR f fd) (hm:mg "is_name"=some (.ref f)) (bT:mg "len"=none) (aP:mg "isinstance"=none) (uJ:mg "str"=none) (Io:mg "all"=none)
  (sI:mg "LETTERS"=some (.str Ab t1)) (lM:mg "LONGEST_NAME"=some (.int 8 t2)):Callee P w K mg base 1 "is_name" LW []:=by
 refine bL F hm Hr (g9 fun _ _ _ _ _ _ _=>rfl) (aH (bY (iJ.pt (jH (iG (eK (cQ hJ aP (aA (uv 0) (aA (iC (n:="str") uJ) aB))))) (j8 (iG (Qd vB vB aK (cQ hX bT (aA (uv 0) aB)) (wO lM))))))
 (aJ (aZ mN))
 bH)
 (aJ (aZ (cQ VL Io (aA (iR false ["sign"] 1 [] (fB (uv 0)) (bX (k:=1) 0 (by dsimp only [cJ];decide +kernel)) jQ (y9 V1 (uv 0) (T9 sI))) aB))))) ?_
 rintro us M Q ⟨x,rfl,ok,q⟩
 refine ⟨rfl,?_⟩
 cases x with
 | str z =>
  simp_all! only [gD,gC,fD,view]
  refine ⟨ok,?_⟩
  simp only [isName] at q
  by_cases h1:1<=(z.length:Int)
  ·rw [if_pos (by simpa using h1)]
   by_cases h8:(z.length:Int)<=8
   ·rw [if_neg (by simp [h8])]
    refine Jz (S:=⟨none,chars z⟩) (M1:=M) (hw:=fun R r=>r) Iv (by rw [show (Src.mk none (chars z)).xs.length=z.length from Ly z];exact ok) (fun a e=>by cases e) (fun x hx M' _ R r=>?_) ?_
    ·obtain ⟨c,rfl⟩:=LD hx
     exact r
    ·show (match sS ((chars z).filterMap Iv) with | some bs=>jD Q (U.bl (bs.all fun b=>b)) M | none=>False)
     unfold chars
     rw [SV]
     refine aO ?_
     have e:((z.cps.toList.map isLetter).all fun b=>b)=(decide (1<=z.length) && decide (z.length<=8) && z.cps.toList.all isLetter):=by
      rw [decide_eq_true (show 1<=z.length by omega),decide_eq_true (show z.length<=8 by omega),List.all_map]
      rfl
     rw [e];exact q
   ·rw [if_pos (by simp [h8])]
    rw [decide_eq_false (show ¬ z.length<=8 by omega)] at q
    simp at q
    exact aO q
  ·rw [if_neg (by simpa using h1)]
   rw [decide_eq_false (show ¬ 1<=z.length by omega)] at q
   simp at q
   exact aO q
 | ref a=>exact ok.elim
 | ty a=>exact ok.elim
 | _=>simp_all! only [gD,gC,fD,view];exact aO q
def Cu:U->Bool
 | .int i=>decide (0<=i) && decide (i<=1000000000000000000)
 | _=>false
inductive LF:U->Bool->Prop
 | non:LF .non false
 | bl (b:Bool):LF (.bl b) false
 | int (i:Int):LF (.int i) false
 | str (z:Str):LF (.str z) false
 | lst (l:List U):LF (.lst l) false
 | tnil:LF (.tup []) false
 | tt (xs r:List U) (h:r.length=1->∀ (z:Str) (M:aI) (Q:UK),PyData.strOk z=true->Q (.bl false) M->jX false (.tup xs) (.str z) M Q):LF (.tup (.tup xs :: r)) false
 | tl (xs r:List U) (h:r.length=1->∀ (z:Str) (M:aI) (Q:UK),PyData.strOk z=true->Q (.bl false) M->jX false (.lst xs) (.str z) M Q):LF (.tup (.lst xs :: r)) false
 | word (z:Str) (r:List U) (h:dC eJ z=none\/∃ k:Nat,dC eJ z=some (.int k)/\r.length≠k) (h2:r.length=1->z≠Str.ofString "num"/\z≠Str.ofString "name"):LF (.tup (.str z :: r)) false
 | num (x:U) (h:GA x):LF (.tup [.str (Str.ofString "num"),x]) (Cu x)
 | name (x:U) (h:GA x):LF (.tup [.str (Str.ofString "name"),x]) (isName x)
inductive G where
 | leaf (u:U) (b:Bool) | turn (a:G) | two (o:Op) (a b:G)
namespace G
def toU:G->U
 | leaf u _=>u
 | turn a=>.tup [.str "turn",a.toU]
 | two o a b=>.tup [.str o.word,a.toU,b.toU]
def size:G->Nat
 | leaf _ _=>1
 | turn a=>a.size + 1
 | two _ a b=>a.size + b.size + 1
def dep:G->Nat
 | leaf _ _=>1
 | turn a=>a.dep + 1
 | two _ a b=>max a.dep b.dep + 1
def fit:G->Bool
 | leaf _ b=>b
 | turn a=>a.fit
 | two _ a b=>a.fit && b.fit
def wf:G->Prop
 | leaf u b=>LF u b
 | turn a=>a.wf
 | two _ a b=>a.wf/\b.wf
end G
def vI:dA:=fun us M Q=>∃ u,us=[u]/\GA u/\Q (.bl (match u with | .int _=>true | _=>false)) M
theorem Ff (F:b9 K "is_whole" "is_whole" jF f fd) (hm:mg "is_whole"=some (.ref f)) (aP:mg "isinstance"=none) (uB:mg "int"=none) (pI:mg "bool"=none):Callee P w K mg base 1 "is_whole" vI []:=by
 refine bL F hm Eb (g9 fun _ _ _ _ _ _ _=>rfl) (aJ (aZ (nR (cQ hJ aP (aA (uv 0) (aA (iC (n:="int") uB) aB))) (pK (MA (cQ hJ aP (aA (uv 0) (aA (iC (n:="bool") pI) aB)))))))) ?_
 rintro us M Q ⟨u,rfl,ho,q⟩
 refine ⟨rfl,?_⟩
 cases u with
 | ref a=>exact ho.elim
 | ty a=>exact ho.elim
 | _=>simp_all! only [gD,gC,fD,view];exact aO q
def CC:dA:=fun us M Q=>∃ u,us=[u]/\GA u/\Q (.bl (Cu u)) M
theorem CY {t1:Tok} (F:b9 K "is_number" "is_number" iV f fd) (hm:mg "is_number"=some (.ref f)) (rP:mg "GREATEST"=some (.int 1000000000000000000 t1)) (qV:Callee P w K mg base 1 "is_whole" vI []):Callee P w K mg base 2 "is_number" CC []:=by
 refine bL F hm B2 (g9 fun _ _ _ _ _ _ _=>rfl) (aJ (aZ (nR (aV qV (aA (uv 0) aB)) (pK (VZ vB vB aK (uv 0) (wO rP)))))) ?_
 rintro us M Q ⟨u,rfl,ho,q⟩
 refine ⟨rfl,?_⟩
 simp_all! only [gD,gC,fD,view]
 refine ⟨u,rfl,ho,?_⟩
 cases u with
 | ref a=>exact ho.elim
 | ty a=>exact ho.elim
 | int i =>
  simp only [Cu,dR,lL,mE,pE,jX,JV,rE,sT,items,nF,vY,iQ,oJ,CT,Cw,at2,A5,Option.some.injEq,exists_eq_left',true_and,and_true,uW,rV,iU,o8,mO,gD,gC,qF,qN,CG,Ae,Ac,zT,lZ,eL,qP,vQ,xK,rR,qX,rL,lB,pO,kC,iX,uC,mR,b7,cE,AN,bQ,hName,fC,wJ,j4,nX,uI,fD,v7,m8,xI,oX,o6,kB,hZ,nB,mD,mU,qQ,qO,mH,rM,j1,view,aE,u7,vO,zO,pD,rH,aD,mW,oQ,rD,jO,m7,sV,m4,nE,qY,xP,AJ,List.map_cons,List.map_nil,List.length_cons,List.length_nil,List.cons_append,List.nil_append,List.replicate,List.getElem?_cons_zero,List.getElem?_cons_succ,List.set_cons_zero,List.set_cons_succ,List.append_nil,Nat.reduceAdd,Nat.reduceSub,Nat.sub_self,Nat.add_sub_cancel,Bool.not_false,Bool.not_true,if_true,if_false,Bool.false_eq_true,reduceCtorEq,decide_true,decide_false,cX,dG,dF,cR,cY,cW,eP,fP,fM,dZ,eS,eV,fY,gP,gQ,eU,fR,fS,fV,gR,gO,e7,fQ,fT,d7,eT,eR,dQ,eD,d8,e8,fX,fW,dY,eW,eZ,eX,fU,fN,d9,eQ,eY] at q ⊢
  by_cases h:0<=i
  ·rw [if_pos (decide_eq_true h)]
   rw [decide_eq_true h,Bool.true_and] at q
   exact aO q
  ·rw [if_neg (by simpa using h)]
   rw [decide_eq_false h,Bool.false_and] at q
   exact aO q
 | _=>simp_all! only [gD,gC,fD,view];exact aO q
def LC:dA:=fun us M Q=>∃ u,us=[u]/\((∃ b,LF u b/\Q (.bl false) M)\/(∃ (z:Str) (r:List U),u=.tup (.str z :: r)/\dC eJ z=some (.int (r.length:Nat))/\Q (.bl true) M))
theorem Jv (F:b9 K "is_sign" "is_sign" kJ f fd) (hm:mg "is_sign"=some (.ref f)) (aP:mg "isinstance"=none) (bN:mg "tuple"=none) (bT:mg "len"=none) (uJ:mg "str"=none) (lN:rJ P w K d eJ) (lV:mg "SIGNS"=some (.ref d)):Callee P w K mg base 1 "is_sign" LC []:=by
 refine bL F hm HX (g9 fun _ _ _ _ _ _ _=>rfl) (aH (bY (iJ.pt (jH (iG (eK (cQ hJ aP (aA (uv 0) (aA (iC (n:="tuple") bN) aB))))) (jH (bW cM (cQ hX bT (aA (uv 0) aB)) aK) (j8 (iG (eK (cQ hJ aP (aA (aQ (uv 0) aK) (aA (iC (n:="str") uJ) aB)))))))))
 (aJ (aZ mN))
 bH)
 (aJ (aZ (nR (y9 (Gq lN) (aQ (uv 0) aK) (tN lV)) (pK (y9 cM (cQ hX bT (aA (uv 0) aB)) (bV (own:=false) aK (UZ lN (tN lV) (aQ (uv 0) aK))))))))) ?_
 rintro us M Q ⟨u,rfl,h⟩
 refine ⟨rfl,?_⟩
 have hne:∀ n:Nat,decide (((n + 1:Nat):Int)=0)=false:=fun n=>decide_eq_false (by omega)
 have nn:dC eJ (Str.ofString "num")=none:=by decide +kernel
 have nm:dC eJ (Str.ofString "name")=none:=by decide +kernel
 have no:∀ (z:Str) (r:List U),dC eJ z=none->Q (.bl false) M->fD (fC (gD d eJ false) (fC oQ (iX 0) (uC (U.int 0))) (uC (U.ref d))) (fC (jX false) (pO mU (kC (iX 0) mR)) (fC (mW false) (uC (U.int 1)) (fC (gC d eJ) (uC (U.ref d)) (fC oQ (iX 0) (uC (U.int 0)))))) [some (.tup (.str z :: r))] M (jD Q):=fun z r h q=>by
  simp_all! only [h,Option.isSome_none,gD,gC,fD,view]
  exact aO q
 have yes:∀ (z:Str) (r:List U) (k:Nat),dC eJ z=some (.int k)->Q (.bl (decide (r.length=k))) M->fD (fC (gD d eJ false) (fC oQ (iX 0) (uC (U.int 0))) (uC (U.ref d))) (fC (jX false) (pO mU (kC (iX 0) mR)) (fC (mW false) (uC (U.int 1)) (fC (gC d eJ) (uC (U.ref d)) (fC oQ (iX 0) (uC (U.int 0)))))) [some (.tup (.str z :: r))] M (jD Q):=fun z r k h q=>by
  simp_all! only [h,Option.isSome_some,Fl.u,gD,gC,fD,view]
  refine aO ?_
  have e:decide (((r.length + 1:Nat):Int)=1 + (k:Int))=decide (r.length=k):=by
   by_cases e:r.length=k
   ·rw [decide_eq_true e];exact decide_eq_true (by omega)
   ·rw [decide_eq_false e];exact decide_eq_false (by omega)
  rw [e]
  exact q
 rcases h with ⟨b,hb,q⟩ | ⟨z,r,rfl,hz,q⟩
 ·cases hb with
  | word z r h h2 =>
   simp_all! only [hne,lF,m9,lC,kZ,kX,kY,j3,aX,bU]
   rcases h with h | ⟨k,h,hk⟩
   ·exact no z r h q
   ·exact yes z r k h (by rw [decide_eq_false hk];exact q)
  | num x h =>
   simp_all! only [hne,lF,m9,lC,kZ,kX,kY,j3,aX,bU]
   exact no _ _ nn q
  | name x h =>
   simp_all! only [hne,lF,m9,lC,kZ,kX,kY,j3,aX,bU]
   exact no _ _ nm q
  | tnil=>simp_all! only [show decide (((0:Nat):Int)=0)=true from rfl,gD,gC,fD,view];exact aO q
  | _=>simp_all! only [hne,gD,gC,fD,view];exact aO q
 ·simp_all! only [hne,lF,m9,lC,kZ,kX,kY,j3,aX,bU]
  exact yes z r r.length hz (by rw [decide_eq_true rfl];exact q)
def y2:dA:=fun us M Q=>∃ u b,us=[u]/\LF u b/\Q (.bl b) M
local macro_rules | `(tactic| simp! only [$xs,*] $[$l]?) => `(tactic| simp only [$xs,*, Bool.false_eq_true, Bool.not_false, Bool.not_true, List.append_nil, List.cons_append, List.getElem?_cons_succ, List.getElem?_cons_zero, List.length_cons, List.length_nil, List.map_cons, List.map_nil, List.nil_append, List.replicate, List.set_cons_succ, List.set_cons_zero, Nat.add_sub_cancel, Nat.reduceAdd, Nat.reduceLeDiff, Nat.reduceSub, Nat.sub_self, Option.getD_some, Option.some.injEq, and_true, CT, Cw, at2, A5, qQ, A1, qO, mH, mD, mU, rM, qF, qN, j1, zT, Ac, Ae, CG, dR, decide_false, decide_true, pU, pH, exists_eq_left', if_false, if_true, sV, gD, cX, cW, dG, cY, dF, cR, eP, eV, fP, eS, fM, dZ, eX, eY, fU, eQ, fN, d9, fY, fS, gP, fR, gQ, eU, e8, eZ, fX, eW, fW, dY, fV, fT, gR, fQ, gO, e7, d7, d8, eT, eD, eR, dQ, items, gC, iU, oJ, iQ, o8, tD, kB, bU, aX, reduceCtorEq, eL, LR, true_and, mW, lZ, rR, fD, uW, rV, uC, pO, nB, mO, j4, kC, nF, tJ, u7, uI, nX, xI, sT, pD, m4, oQ, oB, kG, o6, rE, tB, vO, mR, jO, qX, rH, m8, fC, xK, v7, m7, vS, nE, qY, rD, lB, rL, oX, wJ, iX, vY, m9, lC, kY, lF, j3, kZ, kX] $[$l]?)
theorem w4 (F:b9 K "is_tree_leaf" "is_tree_leaf" fJ f fd) (aP:mg "isinstance"=none) (bN:mg "tuple"=none) (bT:mg "len"=none) (Ef:Callee P w K mg base 2 "is_number" CC []) (Ld:Callee P w K mg base 1 "is_name" LW []):vN P w K mg base 3 f y2:=by
 have h:dX P w K mg base j6 3 f fd ["thing"] (gL K y2):=by
  refine Gs F wK (fun us M Q h=>by obtain ⟨x,y,rfl,_⟩:=h;rfl) (aH (bY (iJ.pt (jH (iG (eK (cQ hJ aP (aA (uv 0) (aA (iC (n:="tuple") bN) aB))))) (j8 (bW uO (cQ hX bT (aA (uv 0) aB)) aK))))
 (aJ (aZ mN))
 bH)
 (aH (bY (bW cM (aQ (uv 0) aK) bR)
 (aJ (aZ (aV Ef (aA (aQ (uv 0) aK) aB))))
 bH)
 (aJ (aZ (nR (y9 cM (aQ (uv 0) aK) bR) (pK (aV Ld (aA (aQ (uv 0) aK) aB)))))))) ?_
  rintro us M Q ⟨u,b,rfl,hb,q⟩
  have hl:∀ n:Nat,(!decide (((n + 1:Nat):Int)=2))=!decide (n=1):=fun n=>by
   by_cases e:n=1
   ·subst e;rfl
   ·rw [decide_eq_false e,decide_eq_false (by omega)]
  have w1:decide (Str.ofString "num"=Str.ofString "num")=true:=by decide +kernel
  have w2:decide (Str.ofString "name"=Str.ofString "num")=false:=by decide +kernel
  have w3:decide (Str.ofString "name"=Str.ofString "name")=true:=by decide +kernel
  cases hb with
  | tnil=>simp? only [show (!decide (((0:Nat):Int)=2))=true from rfl];exact aO q
  | tt xs r h =>
   by_cases e:r.length=1
   ·simp? only [hl,e]
    refine h e _ _ _ (by decide +kernel) ?_
    simp? only [true_and]
    refine h e _ _ _ (by decide +kernel) ?_
    simp? only [true_and]
    exact aO q
   ·simp? only [hl,e]
    exact aO q
  | tl xs r h =>
   by_cases e:r.length=1
   ·simp? only [hl,e]
    refine h e _ _ _ (by decide +kernel) ?_
    simp? only [true_and]
    refine h e _ _ _ (by decide +kernel) ?_
    simp? only [true_and]
    exact aO q
   ·simp? only [hl,e]
    exact aO q
  | word z r h h2 =>
   by_cases e:r.length=1
   ·obtain ⟨n1,n2⟩:=h2 e
    simp? only [hl,e,n1,n2]
    exact aO q
   ·simp? only [hl,e]
    exact aO q
  | num x h =>
   simp? only [hl,w1]
   exact ⟨x,rfl,h,aO q⟩
  | name x h =>
   simp? only [hl,w2,w3]
   exact ⟨x,rfl,h,aO q⟩
  | _=>simp? only [true_and];exact aO q
 exact ⟨fd,_,h,F.kp,F.binds (g9 fun _ _ _ _ _ _ _=>rfl)⟩
def ent (x:G × Nat):U:=.tup [x.1.toU,.int (x.2:Nat)]
def pF:List (G × Nat)->Nat
 | []=>0
 | x :: r=>x.1.size + pF r
theorem pY:∀ l r:List (G × Nat),pF (l++r)=pF l + pF r
 | [],_=>by simp [pF]
 | t :: l,r=>by simp [pF,pY l r];omega
def VV (c:Nat) (st:List (G × Nat)):Prop:=c + pF st<=200/\(∀ x∈st,x.2 + x.1.dep<=41)/\∀ x∈st,x.1.fit=true
def qM (g:G):Bool:=decide (g.size<=200) && (decide (g.dep<=40) && g.fit)
theorem Bp (g:G):qM g=true ↔ VV 0 [(g,1)]:=by
 unfold qM VV
 simp only [Bool.and_eq_true,decide_eq_true_eq,pF,List.mem_cons,List.not_mem_nil,or_false,forall_eq]
 constructor
 ·rintro ⟨a,b,c⟩;exact ⟨by omega,by omega,c⟩
 ·rintro ⟨a,b,c⟩;exact ⟨by omega,by omega,c⟩
theorem QM {c d:Nat} {st:List (G × Nat)} {a:G}:VV (c + 1) (st++[(a,d + 1)]) ↔ VV c (st++[(G.turn a,d)]):=by
 unfold VV
 simp only [pY,pF,List.mem_append,List.mem_cons,List.not_mem_nil,or_false,G.size]
 constructor
 ·rintro ⟨h1,h2,h3⟩
  refine ⟨by omega,fun x hx=>?_,fun x hx=>?_⟩
  ·rcases hx with hx | rfl
   ·exact h2 x (.inl hx)
   ·have:=h2 (a,d + 1) (.inr rfl);simp only [G.dep] at this ⊢;omega
  ·rcases hx with hx | rfl
   ·exact h3 x (.inl hx)
   ·exact h3 (a,d + 1) (.inr rfl)
 ·rintro ⟨h1,h2,h3⟩
  refine ⟨by omega,fun x hx=>?_,fun x hx=>?_⟩
  ·rcases hx with hx | rfl
   ·exact h2 x (.inl hx)
   ·have:=h2 (G.turn a,d) (.inr rfl);simp only [G.dep] at this ⊢;omega
  ·rcases hx with hx | rfl
   ·exact h3 x (.inl hx)
   ·exact h3 (G.turn a,d) (.inr rfl)
theorem Th {c d:Nat} {st:List (G × Nat)} {a b:G} {o:Op}:VV (c + 1) (st++[(a,d + 1),(b,d + 1)]) ↔ VV c (st++[(G.two o a b,d)]):=by
 unfold VV
 simp only [pY,pF,List.mem_append,List.mem_cons,List.not_mem_nil,or_false,G.size]
 constructor
 ·rintro ⟨h1,h2,h3⟩
  refine ⟨by omega,fun x hx=>?_,fun x hx=>?_⟩
  ·rcases hx with hx | rfl
   ·exact h2 x (.inl hx)
   ·have e1:=h2 (a,d + 1) (.inr (.inl rfl));have e2:=h2 (b,d + 1) (.inr (.inr rfl));simp only [G.dep] at e1 e2 ⊢;omega
  ·rcases hx with hx | rfl
   ·exact h3 x (.inl hx)
   ·have e1:=h3 (a,d + 1) (.inr (.inl rfl));have e2:=h3 (b,d + 1) (.inr (.inr rfl));simp only [G.fit] at e1 e2 ⊢;rw [e1,e2];rfl
 ·rintro ⟨h1,h2,h3⟩
  have e1:=h2 (G.two o a b,d) (.inr rfl)
  have e2:=h3 (G.two o a b,d) (.inr rfl)
  simp only [G.dep,G.fit,Bool.and_eq_true] at e1 e2
  refine ⟨by omega,fun x hx=>?_,fun x hx=>?_⟩
  ·rcases hx with hx | rfl | rfl
   ·exact h2 x (.inl hx)
   ·simp only;omega
   ·simp only;omega
  ·rcases hx with hx | rfl | rfl
   ·exact h3 x (.inl hx)
   ·exact e2.1
   ·exact e2.2
theorem R4 {c d:Nat} {st:List (G × Nat)} {u:U} (hd:d<=40):VV (c + 1) st ↔ VV c (st++[(G.leaf u true,d)]):=by
 unfold VV
 simp only [pY,pF,List.mem_append,List.mem_cons,List.not_mem_nil,or_false,G.size]
 constructor
 ·rintro ⟨h1,h2,h3⟩
  refine ⟨by omega,fun x hx=>?_,fun x hx=>?_⟩
  ·rcases hx with hx | rfl
   ·exact h2 x hx
   ·simp only [G.dep];omega
  ·rcases hx with hx | rfl
   ·exact h3 x hx
   ·rfl
 ·rintro ⟨h1,h2,h3⟩
  exact ⟨by omega,fun x hx=>h2 x (.inl hx),fun x hx=>h3 x (.inl hx)⟩
theorem RB {α:Type} (l:List α):l=[]\/∃ r x,l=r++[x]:=by
 rcases List.eq_nil_or_concat l with h | ⟨r,x,h⟩
 ·exact .inl h
 ·exact .inr ⟨r,x,by simpa using h⟩
def GB (fl:Addr):dA:=fun us M Q=>∃ g:G,us=[g.toU,.ref fl,.int 200,.int 40]/\g.wf/\Q (.bl (qM g)) M
theorem QS:dC eJ (Str.ofString "turn")=some (.int 1):=by kernel_rfl
theorem UX (o:Op):dC eJ o.word=some (.int 2):=by cases o <;> kernel_rfl
theorem DS (F:b9 K "is_shape" "is_shape" jL f fd) (hm:mg "is_shape"=some (.ref f)) (Lj:Callee P w K mg base 1 "is_sign" LC []) (A_is_leaf:vN P w K mg base 3 fl y2):Callee P w K mg base 4 "is_shape" (GB fl) []:=by
 refine bL F hm gT (Vh fun _ _ _ _ _ _ _ _ _ _=>rfl) (aH (bF 4 gT.nd aK)
 (aH (bF 5 gT.nd (dI (own:=true) (aA (aW (aA (uv 0) (aA aK aB))) aB)))
 (aH (CS (eK (uv 5))
 (aH (bF 6 gT.nd (U5 (uv 5)))
 (aH (bF 7 gT.nd (aQ (uv 6) aK))
 (aH (bF 8 gT.nd (aQ (uv 6) aK))
 (aH (bF 4 gT.nd (bV (own:=false) (uv 4) aK))
 (aH (bY (iJ.pt (jH (bW Dc (uv 4) (uv 2)) (j8 (bW Dc (uv 8) (uv 3)))))
 (aJ (aZ mN))
 bH)
 (aJ (bY (eK (aV Lj (aA (uv 7) aB)))
 (aJ (iM (MC (uv 5) (aA (iR false ["part","depth"] 1 [8] (fB (gZ (own:=false) (uv 7) (fH aK) fL)) (bX (k:=1) 0 (by dsimp only [cJ];decide +kernel)) jQ (aW (aA (uv 0) (aA (bV (own:=false) (uv 1) aK) aB)))) aB))))
 (aJ (bY (iG (eK (NK 1 A_is_leaf (aA (uv 7) aB))))
 (aJ (aZ mN))
 bH))))))))))
 (aJ (aZ mN))))) ?_
 rintro us M Q ⟨g,rfl,hwf,q⟩
 refine ⟨rfl,?_⟩
 simp? only [true_and]
 refine fun p hp=>?_
 refine Di (fun τ M'=>∃ (c:Nat) (st:List (G × Nat)) (e1 e2 e3:Option U),τ=[some g.toU,some (.ref fl),some (.int 200),some (.int 40),some (.int (c:Nat)),some (.ref p),e1,e2,e3]/\M'=mup M p (.lst (st.map ent))/\(∀ x∈st,x.1.wf)/\c<=200/\st.length<=c + 1/\(VV c st ↔ VV 0 [(g,1)]))
  (fun τ _=>match τ with | [_,_,_,_,some (.int c),_,_,_,_]=>201 - c.toNat | _=>0) ⟨0,[(g,1)],none,none,none,rfl,rfl,(fun x hx=>by cases List.mem_singleton.mp hx;exact hwf),by omega,by simp,Iff.rfl⟩ ?_
 rintro τ M' ⟨c,st,e1,e2,e3,rfl,rfl,hst,hc,hlen,hV⟩
 have no:¬ VV c st->Q (.bl false) M:=fun h=>by
  have:qM g=false:=by
   cases hv:qM g with
   | false=>rfl
   | true=>exact absurd (hV.mpr ((Bp g).mp hv)) h
  rw [this] at q
  exact q
 have fin:∀ us,jD Q (.bl false) (mup M p (.lst us)) ↔ jD Q (.bl false) (mup M p (.lst us)):=fun _=>Iff.rfl
 have out:∀ us,Q (.bl false) M->jD Q (.bl false) (mup M p (.lst us)):=fun us h=>⟨_,M,(Sub.refl M).mup hp,.inl rfl,h⟩
 rcases RB st with rfl | ⟨st,⟨x,dd⟩,rfl⟩
 ·simp? only [List.isEmpty_nil]
  have:qM g=true:=by
   rw [Bp,<- hV]
   exact ⟨by simp only [pF];omega,(fun x hx=>by cases hx),(fun x hx=>by cases hx)⟩
  rw [this] at q
  exact ⟨_,M,(Sub.refl M).mup hp,.inl rfl,q⟩
 ·have hlen':st.length<=c:=by simpa using hlen
  have hxw:x.wf:=hst (x,dd) (by simp)
  have hse:(st.map ent++[U.tup [x.toU,U.int (dd:Nat)]]).isEmpty=false:=by simp
  simp? only [List.map_append,hse,WC,WI,ent]
  refine ⟨iW,g0 (fun h=>?_) (fun h=>g0 (fun h2=>?_) (fun h2=>?_))⟩
  ·refine out _ (no fun hv=>?_)
   have:=of_decide_eq_true h
   have h3:=hv.1
   rw [pY] at h3
   have h4:1<=x.size:=by cases x <;> simp only [G.size] <;> omega
   simp only [pF] at h3
   omega
  ·refine out _ (no fun hv=>?_)
   have:=of_decide_eq_true h2
   have h3:=hv.2.1 (x,dd) (by simp)
   have h4:1<=x.dep:=by cases x <;> simp only [G.dep] <;> omega
   simp only at h3
   omega
  ·have hc1:c + 1<=200:=by
    have:¬ (200:Int) < (c:Int) + 1:=fun z=>h (decide_eq_true z)
    omega
   have hdd:dd<=40:=by
    have:¬ (40:Int) < (dd:Int):=fun z=>h2 (decide_eq_true z)
    omega
   have hst':∀ y∈st,y.1.wf:=fun y hy=>hst y (by simp [hy])
   cases x with
   | leaf u b =>
    refine ⟨_,rfl,.inl ⟨b,hxw,?_⟩⟩
    simp? only [true_and]
    refine ⟨u,b,rfl,hxw,?_⟩
    cases b with
    | false =>
     simp? only [true_and]
     refine out _ (no fun hv=>?_)
     have:=hv.2.2 (G.leaf u false,dd) (by simp)
     cases this
    | true =>
     simp? only [true_and]
     refine ⟨⟨c + 1,st,_,_,_,rfl,rfl,hst',hc1,by omega,?_⟩,by omega⟩
     rw [<- hV]
     exact R4 hdd
   | turn a =>
    refine ⟨_,rfl,.inr ⟨_,_,rfl,QS,?_⟩⟩
    simp? only [G.toU]
    refine ⟨iW,gJ (S:=⟨none,[a.toU]⟩) (M1:=mup M p (.lst (st.map ent))) [ent (a,dd + 1)] (fun R r=>?_) rfl (show 1<=sizeLine by decide) (fun a e=>by cases e) ?_ ?_⟩
    ·simp? only [vL]
     exact r
    ·intro j x y hx hy M' _ R r'
     match j,hx,hy with
     | 0,hx,hy =>
      cases hx;cases hy
      simp? only [true_and]
      first | refine ⟨by decide,?_⟩ | skip
      have e:U.tup [a.toU,U.int ((dd:Int) + 1)]=ent (a,dd + 1):=rfl
      rw [e];exact r'
     | j + 1,hx,hy=>cases hx
    ·simp? only [true_and]
     refine ⟨small (by simp;omega),⟨c + 1,st++[(a,dd + 1)],_,_,_,rfl,by rw [List.map_append];rfl,?_,hc1,by simp;omega,?_⟩,by omega⟩
     ·intro y hy
      rcases List.mem_append.mp hy with hy | hy
      ·exact hst' y hy
      ·cases List.mem_singleton.mp hy;exact hxw
     ·rw [<- hV];exact QM
   | two o a b =>
    refine ⟨_,rfl,.inr ⟨_,_,rfl,UX o,?_⟩⟩
    simp? only [G.toU]
    refine ⟨iW,gJ (S:=⟨none,[a.toU,b.toU]⟩) (M1:=mup M p (.lst (st.map ent))) [ent (a,dd + 1),ent (b,dd + 1)] (fun R r=>?_) rfl (show 2<=sizeLine by decide) (fun a e=>by cases e) ?_ ?_⟩
    ·simp? only [vL]
     exact r
    ·intro j x y hx hy M' _ R r'
     match j,hx,hy with
     | 0,hx,hy =>
      cases hx;cases hy
      simp? only [true_and]
      first | refine ⟨by decide,?_⟩ | skip
      have e:U.tup [a.toU,U.int ((dd:Int) + 1)]=ent (a,dd + 1):=rfl
      rw [e];exact r'
     | 1,hx,hy =>
      cases hx;cases hy
      simp? only [true_and]
      first | refine ⟨by decide,?_⟩ | skip
      have e:U.tup [b.toU,U.int ((dd:Int) + 1)]=ent (b,dd + 1):=rfl
      rw [e];exact r'
     | j + 2,hx,hy=>cases hx
    ·simp? only [true_and]
     refine ⟨small (by simp;omega),⟨c + 1,st++[(a,dd + 1),(b,dd + 1)],_,_,_,rfl,by rw [List.map_append];rfl,?_,hc1,by simp;omega,?_⟩,by omega⟩
     ·intro y hy
      rcases List.mem_append.mp hy with hy | hy
      ·exact hst' y hy
      ·simp only [List.mem_cons,List.not_mem_nil,or_false] at hy
       rcases hy with rfl | rfl
       ·exact hxw.1
       ·exact hxw.2
     ·rw [<- hV];exact Th
def Bd:dA:=fun us M Q=>∃ g:G,us=[g.toU]/\g.wf/\Q (.bl (qM g)) M
theorem Ia {t1 t2:Tok} (F:b9 K "is_tree" "is_tree" kP f fd) (hm:mg "is_tree"=some (.ref f)) (lR:mg "is_tree_leaf"=some (.ref fl)) (mS:mg "TREE_PIECES"=some (.int 200 t1)) (mT:mg "TREE_WITHIN"=some (.int 40 t2)) (Hs:Callee P w K mg base 4 "is_shape" (GB fl) []):Callee P w K mg base 5 "is_tree" Bd []:=by
 refine bL F hm Jr (g9 fun _ _ _ _ _ _ _=>rfl) (aJ (aZ (aV Hs (aA (uv 0) (aA (tN lR) (aA (wO mS) (aA (wO mT) aB))))))) ?_
 rintro us M Q ⟨g,rfl,hwf,q⟩
 refine ⟨rfl,?_⟩
 simp? only [true_and]
 exact ⟨g,rfl,hwf,aO q⟩
theorem Aj {o:Bool} {k:Nat} {ix:List Nat} {wi:UI} {g:UG} {tc:UT} {te:UE} {τ:SU} {M M1:aI} {Q:UK} {S:Src} (zs:List (Option U)) (hw:∀ R:Src->aI->Prop,R S M1->wi τ M R) (hl:zs.length=S.xs.length) (hz:S.xs.length<=sizeLine) (hs:S.ok M1)
  (h:∀ (i:Nat) x z,S.xs[i]?=some x->zs[i]?=some z->∀ M,Sub M1 M->∀ R:Option U->aI->Prop,R z M->g x (dR k ix τ) M fun τ2 M2=>tc τ2 M2 fun ok M3=>if ok=true then te τ2 M3 fun y M4=>R (some y) M4 else R none M3)
  (q:kB o (zs.filterMap id) M1 Q):uN o k ix wi g tc te τ M Q:=by
 refine hw _ ⟨hz,fun D hD=>⟨fun i ys M=>ys=(zs.take i).filterMap id/\M=mup M1 D (.lst ys)/\i<=S.xs.length,⟨by simp,rfl,Nat.zero_le _⟩,?_,?_,?_⟩⟩
 ·rintro i ys M ⟨rfl,rfl,hi⟩
  refine ⟨fun a e=>?_,aX,?_⟩
  ·have:=hs a e
   rw [cB (fun z=>by subst z;rw [hD] at this;cases this)]
   exact this
  ·refine Nat.le_trans (List.length_filterMap_le _ _) ?_
   rw [List.length_take];omega
 ·rintro i x ys M e ⟨rfl,rfl,hi⟩
  have hlt:i < S.xs.length:=(List.getElem?_eq_some_iff.mp e).1
  have hy:zs[i]?=some zs[i]:=by simp [show i < zs.length by omega]
  have tk:zs.take (i + 1)=zs.take i++[zs[i]]:=by rw [List.take_add_one,hy];rfl
  generalize hzi:zs[i]=z at hy tk
  refine h i x z e hy (mup M1 D (.lst ((zs.take i).filterMap id))) ((Sub.refl M1).mup hD) (fun r M4=>match r with
   | some y=>M4 D=some (.lst ((zs.take i).filterMap id))/\((zs.take i).filterMap id++[y]=(zs.take (i + 1)).filterMap id/\mup M4 D (.lst ((zs.take i).filterMap id++[y]))=mup M1 D (.lst ((zs.take i).filterMap id++[y]))/\i + 1<=S.xs.length)
   | none=>(zs.take i).filterMap id=(zs.take (i + 1)).filterMap id/\M4=mup M1 D (.lst ((zs.take i).filterMap id))/\i + 1<=S.xs.length) ?_
  cases z with
  | some y=>exact ⟨aX,by rw [tk,List.filterMap_append];rfl,bU,hlt⟩
  | none=>exact ⟨by rw [tk,List.filterMap_append];simp,rfl,hlt⟩
 ·rintro ys M ⟨rfl,rfl,hi⟩
  rw [show zs.take S.xs.length=zs by rw [<- hl];exact List.take_length]
  cases o with
  | true=>exact q D hD
  | false=>exact ⟨M1,(Sub.refl M1).mup hD,hD,q⟩
def Tr.good:Tr->Prop
 | .num n=>0<=n/\n<=1000000000000000000
 | .name x=>isName (.str x)=true
 | .turn a=>a.good
 | .two _ a b=>a.good/\b.good
def toG:Tr->G
 | .num n=>.leaf (Tr.num n).toU true
 | .name x=>.leaf (Tr.name x).toU true
 | .turn a=>.turn (toG a)
 | .two o a b=>.two o (toG a) (toG b)
theorem AK:∀ t:Tr,(toG t).toU=t.toU
 | .num n=>rfl
 | .name x=>rfl
 | .turn a=>by simp only [toG,G.toU,Tr.toU,AK a]
 | .two o a b=>by simp only [toG,G.toU,Tr.toU,AK a,AK b]
theorem wZ:∀ t:Tr,t.good->(toG t).wf
 | .num n,h=>by
  have e:Cu (.int n)=true:=by simp [Cu,h.1,h.2]
  have:=LF.num (.int n) trivial
  rw [e] at this;exact this
 | .name x,h=>by
  have h':isName (.str x)=true:=h
  have hl:x.length<=sizeLine:=by
   have h2:x.length<=8:=by
    simp only [isName,Bool.and_eq_true,decide_eq_true_eq] at h'
    exact h'.1.2
   exact small (by omega)
  have:=LF.name (.str x) hl
  rw [h'] at this;exact this
 | .turn a,h=>wZ a h
 | .two o a b,h=>⟨wZ a h.1,wZ b h.2⟩
theorem rA:∀ t:Tr,(toG t).size=t.size
 | .num n=>rfl
 | .name x=>rfl
 | .turn a=>by simp only [toG,G.size,Tr.size,rA a]
 | .two o a b=>by simp only [toG,G.size,Tr.size,rA a,rA b]
theorem tZ:∀ t:Tr,(toG t).dep=t.dep
 | .num n=>rfl
 | .name x=>rfl
 | .turn a=>by simp only [toG,G.dep,Tr.dep,tZ a]
 | .two o a b=>by simp only [toG,G.dep,Tr.dep,tZ a,tZ b]
theorem tP:∀ t:Tr,(toG t).fit=true
 | .num n=>rfl
 | .name x=>rfl
 | .turn a=>tP a
 | .two o a b=>by simp only [toG,G.fit,tP a,tP b];rfl
def lA (t:Tr):Bool:=decide (t.size<=200) && decide (t.dep<=40)
theorem Um (t:Tr):qM (toG t)=lA t:=by
 unfold qM lA
 rw [rA,tZ,tP,Bool.and_true]
theorem CD {o:Wo} {t x:Tr} (h:o.chg t=some x) (g:t.good):x.good:=by
 cases o <;> simp only [Wo.chg] at h
 ·unfold gB at h;split at h <;> cases h <;> exact ⟨g.2,g.1⟩
 ·unfold cI at h;split at h <;> cases h <;> exact ⟨g.1.1,g.1.2,g.2⟩
 ·unfold eG at h;split at h <;> cases h <;> exact ⟨⟨g.1,g.2.1⟩,g.2.2⟩
 ·unfold gI at h;split at h <;> cases h;exact ⟨g.1,g.2⟩
 ·unfold fF at h;split at h <;> cases h;exact ⟨g.1,g.2⟩
 ·unfold jW at h;split at h <;> cases h;exact g
theorem pL:∀ (t:Tr) (p:List Nat) (a:Tr),t.at p=some a->t.good->a.good
 | t,[],a,h,g=>by rw [cH] at h;cases h;exact g
 | .turn b,0 :: r,a,h,g=>pL b r a h g
 | .two _ b c,0 :: r,a,h,g=>pL b r a h g.1
 | .two _ b c,1 :: r,a,h,g=>pL c r a h g.2
 | .num _,_ :: _,a,h,g=>by simp [Tr.at] at h
 | .name _,_ :: _,a,h,g=>by simp [Tr.at] at h
 | .turn b,(k + 1) :: r,a,h,g=>by simp [Tr.at] at h
 | .two _ b c,(k + 2) :: r,a,h,g=>by simp [Tr.at] at h
theorem n9:∀ (t:Tr) (p:List Nat) (x:Tr),t.good->x.good->(bZ t p x).good
 | t,[],x,g,gx=>by rw [pV];exact gx
 | .turn b,0 :: r,x,g,gx=>n9 b r x g gx
 | .two _ b c,0 :: r,x,g,gx=>⟨n9 b r x g.1 gx,g.2⟩
 | .two _ b c,1 :: r,x,g,gx=>⟨g.1,n9 c r x g.2 gx⟩
 | .num _,_ :: _,x,g,gx=>by simpa [bZ] using g
 | .name _,_ :: _,x,g,gx=>by simpa [bZ] using g
 | .turn b,(k + 1) :: r,x,g,gx=>by simpa [bZ] using g
 | .two _ b c,(k + 2) :: r,x,g,gx=>by simpa [bZ] using g
theorem oF (t:Tr):∀ (a:Tr) (p:List Nat),t.at p=some a->∀ e∈cF p a,t.at e.1=some e.2
 | .num n,p,h,e,he=>by cases List.mem_singleton.mp he;exact h
 | .name x,p,h,e,he=>by cases List.mem_singleton.mp he;exact h
 | .turn b,p,h,e,he=>by
  simp only [cF,List.mem_cons] at he
  rcases he with rfl | he
  ·exact h
  ·exact oF t b (p++[0]) (by rw [mI t p [0] _ h];simp [Tr.at,cH]) e he
 | .two o b c,p,h,e,he=>by
  simp only [cF,List.mem_cons,List.mem_append] at he
  rcases he with rfl | he | he
  ·exact h
  ·exact oF t b (p++[0]) (by rw [mI t p [0] _ h];simp [Tr.at,cH]) e he
  ·exact oF t c (p++[1]) (by rw [mI t p [1] _ h];simp [Tr.at,cH]) e he
theorem OK {t:Tr} (g:t.good):∀ e∈pA t,e.2.2.good:=by
 intro e he
 unfold pA at he
 obtain ⟨q,hq,he⟩:=List.mem_flatMap.mp he
 have hat:=oF t t [] (cH t) q hq
 unfold j5 at he
 obtain ⟨o,_,ho⟩:=List.mem_filterMap.mp he
 cases hc:o.chg q.2 with
 | none=>rw [hc] at ho;cases ho
 | some x =>
  rw [hc] at ho
  cases ho
  exact n9 t q.1 x g (CD hc (pL t q.1 q.2 hat g))
def pR (e:Wo × List Nat × Tr):U:=.tup [.str e.1.word,bI e.2.1]
def eM (t:Tr):List (Wo × List Nat × Tr):=(pA t).filter fun e=>lA e.2.2
theorem Mb (B:Nat):∀ ns:List Int,(∀ n∈ns,0<=n/\n<=B)->0<=ns.sum/\ns.sum<=B * ns.length
 | [],_=>by simp
 | n :: ns,h=>by
  obtain ⟨h1,h2⟩:=h n List.mem_cons_self
  obtain ⟨h3,h4⟩:=Mb B ns fun x hx=>h x (List.mem_cons_of_mem _ hx)
  rw [List.sum_cons,List.length_cons]
  have e:(B:Int) * ((ns.length + 1:Nat):Int)=B * ns.length + B:=by
   rw [Int.natCast_add,Int.mul_add];simp
  rw [e]
  exact ⟨by omega,by omega⟩
theorem fits_of {ns:List Int} (h:∀ n∈ns,0<=n/\n<=1000000) (hl:ns.length<=2000):PySem.SumFits ns:=by
 intro j hj
 have hm:ns.getD j 0∈ns:=by
  rw [List.getD_eq_getElem?_getD,List.getElem?_eq_getElem hj];exact List.getElem_mem hj
 obtain ⟨h1,h2⟩:=h _ hm
 obtain ⟨h3,h4⟩:=Mb 1000000 (ns.take (j + 1)) fun x hx=>h x (List.mem_of_mem_take hx)
 have h5:(ns.take (j + 1)).length<=2000:=by rw [List.length_take];omega
 have h6:((1000000:Nat):Int) * ((ns.take (j + 1)).length:Int)<=2000000000:=by omega
 constructor <;> (unfold InLong;constructor <;> omega)
theorem xO (ns:List Int):intsOf (ns.map U.int)=some ns:=by
 induction ns with
 | nil=>rfl
 | cons a r ih=>simp only [List.map_cons,intsOf,ih,Option.map_some]
theorem lO (t:Tr):1<=t.dep:=by cases t <;> simp [Tr.dep]
theorem size_pos (t:Tr):1<=t.size:=by cases t <;> simp [Tr.size]
theorem Dj (M:aI) (t:Tr):aE M t.toU=some "tuple":=by cases t <;> rfl
def dJ:Tr->List U
 | .num k=>[.int k]
 | .name x=>[.str x]
 | .turn a=>[a.toU]
 | .two _ a b=>[a.toU,b.toU]
def qH (v:Tr->Int):Tr->List (Option U)
 | .num _=>[none]
 | .name _=>[none]
 | .turn a=>[some (.int (v a))]
 | .two _ a b=>[some (.int (v a)),some (.int (v b))]
theorem BS {v:Tr->Int} {t:Tr} {i:Nat} {x:U} {z:Option U} (hx:(dJ t)[i]?=some x) (hz:(qH v t)[i]?=some z):(z=none/\((∃ k,x=.int k)\/∃ y,x=.str y))\/∃ a,a∈t.parts/\x=a.toU/\z=some (.int (v a)):=by
 cases t with
 | num k=>match i,hx,hz with
  | 0,hx,hz=>cases hx;cases hz;exact .inl ⟨rfl,.inl ⟨k,rfl⟩⟩
  | i + 1,hx,hz=>cases hx
 | name y=>match i,hx,hz with
  | 0,hx,hz=>cases hx;cases hz;exact .inl ⟨rfl,.inr ⟨y,rfl⟩⟩
  | i + 1,hx,hz=>cases hx
 | turn a=>match i,hx,hz with
  | 0,hx,hz=>cases hx;cases hz;exact .inr ⟨a,List.mem_singleton.mpr rfl,rfl,rfl⟩
  | i + 1,hx,hz=>cases hx
 | two o a b=>match i,hx,hz with
  | 0,hx,hz=>cases hx;cases hz;exact .inr ⟨a,by simp [Tr.parts],rfl,rfl⟩
  | 1,hx,hz=>cases hx;cases hz;exact .inr ⟨b,by simp [Tr.parts],rfl,rfl⟩
  | i + 2,hx,hz=>cases hx
theorem Br (v:Tr->Int) (t:Tr):(qH v t).length=(dJ t).length/\(dJ t).length<=2:=by cases t <;> simp [qH,dJ]
theorem Cz (v:Tr->Int) (t:Tr):(qH v t).filterMap id=(t.parts.map v).map U.int:=by cases t <;> simp [qH,Tr.parts]
theorem rF (t:Tr):∃ z,t.toU=.tup (.str z :: dJ t):=by cases t <;> exact ⟨_,rfl⟩
theorem oS {t a:Tr} (h:a∈t.parts):a.dep < t.dep/\a.size < t.size:=by
 cases t with
 | num k=>cases h
 | name x=>cases h
 | turn b=>cases List.mem_singleton.mp h;simp only [Tr.dep,Tr.size];omega
 | two o b c =>
  simp only [Tr.parts,List.mem_cons,List.not_mem_nil,or_false] at h
  have:=size_pos b
  have:=size_pos c
  rcases h with rfl | rfl <;> (simp only [Tr.dep,Tr.size];omega)
theorem tL (t:Tr):t.parts.length<=2:=by cases t <;> simp [Tr.parts]
def sJ (n:Nat):dA:=fun us M Q=>∃ t:Tr,us=[t.toU]/\t.dep<=n/\t.size<=2000/\Q (.int t.size) M
theorem Q8 {n:Nat} (F:b9 K "_law_size" "_law_size" iB f fd) (hm:mg "_law_size"=some (.ref f)) (uL:mg "sum"=none) (aP:mg "isinstance"=none) (bN:mg "tuple"=none) (qK:Callee P w K mg base n "_law_size" (sJ n) []):Callee P w K mg base (n + 1) "_law_size" (sJ (n + 1)) []:=by
 refine bL F hm EV (g9 fun _ _ _ _ _ _ _=>rfl) (aJ (aZ (bV (own:=false) aK (cQ VS uL (aA (iR false ["part"] 1 [] (fB (gZ (own:=false) (uv 0) (fH aK) fL)) (bX (k:=1) 0 (by dsimp only [cJ];decide +kernel)) (Gv (eK (cQ hJ aP (aA (uv 0) (aA (iC (n:="tuple") bN) aB))))) (aV qK (aA (uv 0) aB))) aB))))) ?_
 rintro us M Q ⟨t,rfl,hd,hs,q⟩
 refine ⟨rfl,?_⟩
 obtain ⟨z,hz⟩:=rF t
 have ht:=Br (fun a=>(a.size:Int)) t
 have h2:=tL t
 have hs0:=xU t
 rw [hz]
 simp! only [cE,aE,aD]
 refine Aj (S:=⟨none,dJ t⟩) (M1:=M) (qH (fun a=>(a.size:Int)) t) (fun R r=>by simp! only [vL,aE,aD];exact r) ht.1 (small (by show (dJ t).length<=_;omega)) (fun a e=>by cases e) ?_ ?_
 ·intro i x z hx hz M' hS R r'
  rcases BS hx hz with ⟨rfl,⟨k,rfl⟩ | ⟨y,rfl⟩⟩ | ⟨a,ha,rfl,rfl⟩
  ·simp! only [hName,aE,aE,aD]
   exact r'
  ·simp! only [hName,aE,aE,aD]
   exact r'
  ·have hl:=oS ha
   simp! only [hName,Dj,aD]
   exact ⟨a,rfl,by omega,by omega,r'⟩
 ·rw [Cz]
  simp! only [aE,aD]
  refine ⟨_,xO _,fits_of (fun n hn=>?_) (by rw [List.length_map];omega),?_⟩
  ·obtain ⟨a,ha,rfl⟩:=List.mem_map.mp hn
   have:=oS ha
   exact ⟨by omega,by omega⟩
  ·have e:1 + (t.parts.map fun a=>(a.size:Int)).sum=(t.size:Int):=by
    rw [hs0]
    have:∀ l:List Tr,(l.map fun a=>(a.size:Int)).sum=((l.map Tr.size).sum:Nat):=fun l=>by
     induction l with
     | nil=>rfl
     | cons a l ih=>simp only [List.map_cons,List.sum_cons,ih];push_cast;rfl
    rw [this];push_cast;rfl
   rw [e]
   exact aO q
theorem Ct (F:b9 K "_law_size" "_law_size" iB f fd) (hm:mg "_law_size"=some (.ref f)) (uL:mg "sum"=none) (aP:mg "isinstance"=none) (bN:mg "tuple"=none):∀ n,Callee P w K mg base n "_law_size" (sJ n) []
 | 0=>by
  have no:∀ us M Q,¬ sJ 0 us M Q:=fun us M Q h=>by
   obtain ⟨t,_,h,_⟩:=h
   have:=lO t
   omega
  refine ⟨f,fd,["tree"],[],[],⟨fun vs H Q E h=>?_,fun A outer s H args us vs Q E _ _ _ _ h=>?_⟩,hm,F.kp,F.binds (g9 fun _ _ _ _ _ _ _=>rfl),.nil,fun H M=>.nil⟩
  ·obtain ⟨us,M,Q',_,_,h,_⟩:=h;exact absurd h (no us M Q')
  ·obtain ⟨us,M,Q',_,_,h,_⟩:=h;exact absurd h (no us M Q')
 | n + 1=>Q8 F hm uL aP bN (Ct F hm uL aP bN n)
def sP (n:Nat):dA:=fun us M Q=>∃ t:Tr,us=[t.toU]/\t.dep<=n/\t.size<=2000/\Q (.int t.dep) M
theorem QH {n:Nat} (F:b9 K "_law_deep" "_law_deep" iE f fd) (hm:mg "_law_deep"=some (.ref f)) (nD:mg "max"=none) (aP:mg "isinstance"=none) (bN:mg "tuple"=none) (rO:Callee P w K mg base n "_law_deep" (sP n) []):Callee P w K mg base (n + 1) "_law_deep" (sP (n + 1)) []:=by
 refine bL F hm Ec (g9 fun _ _ _ _ _ _ _=>rfl) (aJ (aZ (bV (own:=false) aK (cQ L8 nD (aA (bV (own:=false) (dI (own:=false) (aA aK aB)) (iR false ["part"] 1 [] (fB (gZ (own:=false) (uv 0) (fH aK) fL)) (bX (k:=1) 0 (by dsimp only [cJ];decide +kernel)) (Gv (eK (cQ hJ aP (aA (uv 0) (aA (iC (n:="tuple") bN) aB))))) (aV rO (aA (uv 0) aB)))) aB))))) ?_
 rintro us M Q ⟨t,rfl,hd,hs,q⟩
 refine ⟨rfl,?_⟩
 obtain ⟨z,hz⟩:=rF t
 have ht:=Br (fun a=>(a.dep:Int)) t
 have h2:=tL t
 have hs0:=xU t
 rw [hz]
 simp! only [cE,aE,aD]
 refine Aj (S:=⟨none,dJ t⟩) (M1:=M) (qH (fun a=>(a.dep:Int)) t) (fun R r=>by simp! only [vL,aE,aD];exact r) ht.1 (small (by show (dJ t).length<=_;omega)) (fun a e=>by cases e) ?_ ?_
 ·intro i x z hx hz M' hS R r'
  rcases BS hx hz with ⟨rfl,⟨k,rfl⟩ | ⟨y,rfl⟩⟩ | ⟨a,ha,rfl,rfl⟩
  ·simp! only [hName,aE,aE,aD]
   exact r'
  ·simp! only [hName,aE,aE,aD]
   exact r'
  ·have hl:=oS ha
   simp! only [hName,Dj,aD]
   exact ⟨a,rfl,by omega,by omega,r'⟩
 ·rw [Cz]
  simp! only [aE,aD]
  refine ⟨small (by rw [List.length_map,List.length_map];omega),0,t.parts.map (fun a:Tr=>(a.dep:Int)),xO (0 :: t.parts.map (fun a:Tr=>(a.dep:Int))),?_⟩
  have e:1 + kH 0 (t.parts.map fun a:Tr=>(a.dep:Int))=(t.dep:Int):=by
   cases t with
   | num k=>rfl
   | name x=>rfl
   | turn a =>
    have:=lO a
    simp only [Tr.parts,List.map_cons,List.map_nil,kH,List.foldl_cons,List.foldl_nil,Tr.dep]
    repeat' split
    all_goals (push_cast;omega)
   | two o a b =>
    have:=lO a
    have:=lO b
    simp only [Tr.parts,List.map_cons,List.map_nil,kH,List.foldl_cons,List.foldl_nil,Tr.dep]
    repeat' split
    all_goals (push_cast;omega)
  rw [e]
  exact aO q
theorem BN (F:b9 K "_law_deep" "_law_deep" iE f fd) (hm:mg "_law_deep"=some (.ref f)) (nD:mg "max"=none) (aP:mg "isinstance"=none) (bN:mg "tuple"=none):∀ n,Callee P w K mg base n "_law_deep" (sP n) []
 | 0=>by
  have no:∀ us M Q,¬ sP 0 us M Q:=fun us M Q h=>by
   obtain ⟨t,_,h,_⟩:=h
   have:=lO t
   omega
  refine ⟨f,fd,["tree"],[],[],⟨fun vs H Q E h=>?_,fun A outer s H args us vs Q E _ _ _ _ h=>?_⟩,hm,F.kp,F.binds (g9 fun _ _ _ _ _ _ _=>rfl),.nil,fun H M=>.nil⟩
  ·obtain ⟨us,M,Q',_,_,h,_⟩:=h;exact absurd h (no us M Q')
  ·obtain ⟨us,M,Q',_,_,h,_⟩:=h;exact absurd h (no us M Q')
 | n + 1=>QH F hm nD aP bN (BN F hm nD aP bN n)
def U8:dA:=fun us M Q=>∃ (t a:Tr) (p:List Nat),us=[t.toU,bI p]/\t.at p=some a/\Q a.toU M
theorem tail_at {t c:Tr} {k:Nat} (h:t.parts[k]?=some c):(dJ t)[k]?=some c.toU:=by
 cases t with
 | num n=>simp [Tr.parts] at h
 | name x=>simp [Tr.parts] at h
 | turn a=>match k,h with
  | 0,h=>cases h;rfl
  | k + 1,h=>simp [Tr.parts] at h
 | two o a b=>match k,h with
  | 0,h=>cases h;rfl
  | 1,h=>cases h;rfl
  | k + 2,h=>simp [Tr.parts] at h
theorem Vt (F:b9 K "_law_at" "_law_at" lU f fd) (hm:mg "_law_at"=some (.ref f)):Callee P w K mg base 1 "_law_at" U8 []:=by
 refine bL F hm tF (r0 fun _ _ _ _ _ _ _ _=>rfl) (aH (gK (fB (uv 1)) (bX (k:=1000) 2 tF.nd)
 (aJ (bF 0 tF.nd (aQ (uv 0) (bV (own:=false) aK (uv 2))))))
 (aJ (aZ (uv 0)))) ?_
 rintro us M Q ⟨t,a,p,rfl,ht,q⟩
 refine ⟨rfl,?_⟩
 have hst:=tU ht
 refine aU fun V hV=>?_
 refine gY (S:=⟨none,p.map fun (n:Nat)=>U.int (n:Int)⟩) (M1:=M) (fun R r=>by simp! only [bI,aE,aD];exact r)
  (fun i τ Mi=>∃ (b:Tr) (z2:Option U),t.at (p.take i)=some b/\τ=[some b.toU,some (bI p),z2]/\Mi=M) ⟨t,none,by rw [List.take_zero,cH],rfl,rfl⟩ nk ?_ ?_
 ·rintro i u τ Mi e ⟨b,z2,hb,rfl,rfl⟩
  have e':(p.map fun (n:Nat)=>U.int (n:Int))[i]?=some u:=e
  rw [List.getElem?_map] at e'
  cases hk:p[i]? with
  | none=>rw [hk] at e';cases e'
  | some k =>
   rw [hk] at e'
   cases e'
   have hi:=(List.getElem?_eq_some_iff.mp hk).1
   obtain ⟨b',c,hb',hc,hbc⟩:=hst i hi
   rw [hb] at hb';cases hb'
   rw [hk] at hbc
   obtain ⟨z,hz⟩:=rF b
   have hat:eF (.str z :: dJ b) (1 + (k:Int))=some c.toU:=by
    have:=eC (xs:=U.str z :: dJ b) (j:=k + 1) (v:=c.toU) (tail_at hbc)
    rw [show 1 + (k:Int)=((k + 1:Nat):Int) by push_cast;omega];exact this
   simp! only [hName,bQ,hz,hat,aE,aD]
   exact ⟨c,_,hc,rfl⟩
 ·rintro τ Mi ⟨b,z2,hb,rfl,rfl⟩
  have hlen:(Src.mk none (p.map fun (n:Nat)=>U.int (n:Int))).xs.length=p.length:=by show (p.map _).length=_;rw [List.length_map]
  rw [hlen,List.take_length,ht] at hb
  cases hb
  subst hV
  simp! only [cE,aE,aD]
  exact aO q
def sN (n:Nat):dA:=fun us M Q=>∃ (t a x:Tr) (p:List Nat),us=[t.toU,bI p,x.toU]/\t.at p=some a/\p.length < n/\p.length<=1000/\Q (bZ t p x).toU M
theorem QU {n:Nat} (F:b9 K "_law_with" "_law_with" iF f fd) (hm:mg "_law_with"=some (.ref f)) (bT:mg "len"=none) (qL:Callee P w K mg base n "_law_with" (sN n) []):Callee P w K mg base (n + 1) "_law_with" (sN (n + 1)) []:=by
 refine bL F hm u5 (Qa fun _ _ _ _ _ _ _ _ _=>rfl) (aH (bY (bW cM (cQ hX bT (aA (uv 1) aB)) aK)
 (aJ (aZ (uv 2)))
 bH)
 (aH (bF 3 u5.nd (bV (own:=false) aK (aQ (uv 1) aK)))
 (aJ (aZ (bV (own:=false) (bV (own:=false) (gZ (own:=false) (uv 0) fL (fH (uv 3))) (aW (aA (aV qL (aA (aQ (uv 0) (uv 3)) (aA (gZ (own:=false) (uv 1) (fH aK) fL) (aA (uv 2) aB)))) aB))) (gZ (own:=false) (uv 0) (fH (bV (own:=false) (uv 3) aK)) fL)))))) ?_
 rintro us M Q ⟨t,a,x,p,rfl,ht,hn,hpl,q⟩
 refine ⟨rfl,?_⟩
 cases p with
 | nil =>
  rw [pV] at q
  simp? only [bI]
  exact aO q
 | cons k p =>
  have hne:decide ((((p.map fun (n:Nat)=>U.int (n:Int)).length + 1:Nat):Int)=0)=false:=decide_eq_false (by omega)
  obtain ⟨b,c,hb,hc,hbc⟩:=tU ht 0 (by simp)
  rw [List.take_zero,cH] at hb;cases hb
  have hbc':t.parts[k]?=some c:=hbc
  obtain ⟨z,hz,hset⟩:=F3 t (bZ c p x) k hbc'
  refine aU fun V hV=>?_
  refine cG fun A B hA hB=>?_
  simp! only [bI,hne,aE,aD]
  subst hB
  simp only [b7]
  subst hV
  refine aU fun V hV=>?_
  simp! only [bQ,hName,bI,aE,aD]
  subst hV
  have hat:eF (.str z :: t.parts.map Tr.toU) (1 + (k:Int))=some c.toU:=by
   have:=eC (xs:=U.str z :: t.parts.map Tr.toU) (j:=k + 1) (v:=c.toU) (by show (t.parts.map Tr.toU)[k]?=_;rw [List.getElem?_map,hbc'];rfl)
   rw [show 1 + (k:Int)=((k + 1:Nat):Int) by push_cast;omega];exact this
  have hca:c.at p=some a:=by
   have hc1:t.at [k]=some c:=hc
   have:=mI t [k] p c hc1
   rw [show [k]++p=k :: p from rfl,ht] at this
   exact this.symm
  have c1:=uK (U.str z :: t.parts.map Tr.toU) none (some (1 + (k:Int)))
  have c2:=uK (U.str z :: t.parts.map Tr.toU) (some (2 + (k:Int))) none
  have h2:=tL t
  rw [List.length_cons,List.length_map] at c1 c2
  have e2:1 + (k:Int) + 1=2 + (k:Int):=by omega
  simp! only [cE,hz,hat,vL,e2,aE,aD]
  refine ⟨c,a,x,p,rfl,hca,by simp only [List.length_cons] at hn;omega,by simp only [List.length_cons] at hpl;omega,?_⟩
  simp! only [aE,aD]
  refine ⟨small (by omega),small (by rw [List.length_append,List.length_cons,List.length_nil];omega),?_⟩
  rw [<- hset,<- Bm hbc']
  exact aO q
theorem Bf (F:b9 K "_law_with" "_law_with" iF f fd) (hm:mg "_law_with"=some (.ref f)) (bT:mg "len"=none):∀ n,Callee P w K mg base n "_law_with" (sN n) []
 | 0=>by
  have no:∀ us M Q,¬ sN 0 us M Q:=fun us M Q h=>by
   obtain ⟨t,a,x,p,_,_,h,_⟩:=h
   omega
  refine ⟨f,fd,["tree","spot","other"],[],[],⟨fun vs H Q E h=>?_,fun A outer s H args us vs Q E _ _ _ _ h=>?_⟩,hm,F.kp,F.binds (Qa fun _ _ _ _ _ _ _ _ _=>rfl),.nil,fun H M=>.nil⟩
  ·obtain ⟨us,M,Q',_,_,h,_⟩:=h;exact absurd h (no us M Q')
  ·obtain ⟨us,M,Q',_,_,h,_⟩:=h;exact absurd h (no us M Q')
 | n + 1=>QU F hm bT (Bf F hm bT n)
def fO:Tr->List (List Nat)
 | .turn a=>[] :: (fO a).map (0 :: ·)
 | .two _ a b=>[] :: ((fO a).map (0 :: ·)++(fO b).map (1 :: ·))
 | _=>[[]]
theorem wL:∀ (t:Tr) (p:List Nat),(cF p t).map (·.1)=(fO t).map (p++·)
 | .num n,p=>by simp [cF,fO]
 | .name x,p=>by simp [cF,fO]
 | .turn a,p=>by simp [cF,fO,wL a,Function.comp_def]
 | .two o a b,p=>by simp [cF,fO,wL a,wL b,Function.comp_def]
theorem j2:∀ t:Tr,(fO t).length=t.size
 | .num n=>rfl
 | .name x=>rfl
 | .turn a=>by simp [fO,Tr.size,j2 a]
 | .two o a b=>by simp [fO,Tr.size,j2 a,j2 b]
theorem nW:∀ (t:Tr),∀ p∈fO t,p.length < t.size
 | .num n,p,h=>by cases List.mem_singleton.mp h;simp [Tr.size]
 | .name x,p,h=>by cases List.mem_singleton.mp h;simp [Tr.size]
 | .turn a,p,h=>by
  simp only [fO,List.mem_cons,List.mem_map] at h
  rcases h with rfl | ⟨q,hq,rfl⟩
  ·simp [Tr.size]
  ·have:=nW a q hq;simp only [Tr.size,List.length_cons];omega
 | .two o a b,p,h=>by
  simp only [fO,List.mem_cons,List.mem_append,List.mem_map] at h
  rcases h with rfl | ⟨q,hq,rfl⟩ | ⟨q,hq,rfl⟩
  ·simp [Tr.size]
  ·have:=nW a q hq;simp only [Tr.size,List.length_cons];omega
  ·have:=nW b q hq;simp only [Tr.size,List.length_cons];omega
def pP:Tr->Nat->List (List Nat)
 | .turn a,_ + 1=>[] :: (fO a).map (0 :: ·)
 | .two _ a _,1=>[] :: (fO a).map (0 :: ·)
 | .two _ a b,_ + 2=>[] :: ((fO a).map (0 :: ·)++(fO b).map (1 :: ·))
 | _,_=>[[]]
theorem Sz (t:Tr):pP t 0=[[]]:=by cases t <;> rfl
theorem Ve (t:Tr):pP t (dJ t).length=fO t:=by cases t <;> rfl
theorem Q6 {t a:Tr} {i:Nat} (h:t.parts[i]?=some a):pP t (i + 1)=pP t i++(fO a).map (i :: ·):=by
 cases t with
 | num n=>simp [Tr.parts] at h
 | name x=>simp [Tr.parts] at h
 | turn b=>match i,h with
  | 0,h=>cases h;rfl
  | i + 1,h=>simp [Tr.parts] at h
 | two o b c=>match i,h with
  | 0,h=>cases h;rfl
  | 1,h=>cases h;rfl
  | i + 2,h=>simp [Tr.parts] at h
theorem Gr {t:Tr} {i:Nat} (h:t.parts=[]):pP t (i + 1)=pP t i:=by
 cases t with
 | num n=>rfl
 | name x=>rfl
 | turn b=>cases h
 | two o b c=>cases h
theorem U6 (t:Tr) (i:Nat):(pP t i).length<=t.size:=by
 have h:∀ t:Tr,1<=t.size:=size_pos
 cases t with
 | num n=>exact Nat.le_refl 1
 | name x=>exact Nat.le_refl 1
 | turn a=>match i with
  | 0=>simp [pP,Tr.size]
  | i + 1=>simp [pP,Tr.size,j2 a]
 | two o a b=>match i with
  | 0=>simp [pP,Tr.size]
  | 1=>simp [pP,Tr.size,j2 a]
  | i + 2=>simp [pP,Tr.size,j2 a,j2 b]
theorem RR {t:Tr} {i:Nat} {x:U} (hx:(dJ t)[i]?=some x):(t.parts=[]/\((∃ k,x=.int k)\/∃ y,x=.str y))\/∃ a,t.parts[i]?=some a/\x=a.toU:=by
 cases t with
 | num k=>match i,hx with
  | 0,hx=>cases hx;exact .inl ⟨rfl,.inl ⟨k,rfl⟩⟩
  | i + 1,hx=>cases hx
 | name y=>match i,hx with
  | 0,hx=>cases hx;exact .inl ⟨rfl,.inr ⟨y,rfl⟩⟩
  | i + 1,hx=>cases hx
 | turn a=>match i,hx with
  | 0,hx=>cases hx;exact .inr ⟨a,rfl,rfl⟩
  | i + 1,hx=>cases hx
 | two o a b=>match i,hx with
  | 0,hx=>cases hx;exact .inr ⟨a,rfl,rfl⟩
  | 1,hx=>cases hx;exact .inr ⟨b,rfl,rfl⟩
  | i + 2,hx=>cases hx
def nH (n:Nat):dA:=fun us M Q=>∃ t:Tr,us=[t.toU]/\t.dep<=n/\t.size<=900/\Q (.lst ((fO t).map bI)) M
theorem N3 {n:Nat} (F:b9 K "_law_spots" "_law_spots" gS f fd) (hm:mg "_law_spots"=some (.ref f)) (iS:mg "enumerate"=none) (aP:mg "isinstance"=none) (bN:mg "tuple"=none) (j9:Callee P w K mg base n "_law_spots" (nH n) []):Callee P w K mg base (n + 1) "_law_spots" (nH (n + 1)) []:=by
 refine bL F hm i7 (g9 fun _ _ _ _ _ _ _=>rfl) (aH (bF 1 i7.nd (dI (own:=false) (aA (aW aB) aB)))
 (aH (gK (CA iS (aA (gZ (own:=false) (uv 0) (fH aK) fL) aB)) (xJ (n:=2) (jC (bX (k:=1000) 2 i7.nd) (jC (bX (k:=1000) 3 i7.nd) tV)))
 (aJ (bY (eK (cQ hJ aP (aA (uv 3) (aA (iC (n:="tuple") bN) aB))))
 (aJ (bF 1 i7.nd (bV (own:=false) (uv 1) (iR false ["spot","k"] 1 [2] (fB (aV j9 (aA (uv 3) aB))) (bX (k:=1) 0 (by dsimp only [cJ];decide +kernel)) jQ (bV (own:=false) (aW (aA (uv 1) aB)) (uv 0))))))
 bH)))
 (aJ (aZ (uv 1))))) ?_
 rintro us M Q ⟨t,rfl,hd,hs,q⟩
 refine ⟨rfl,?_⟩
 obtain ⟨z,hz⟩:=rF t
 refine aU fun V hV=>?_
 simp! only [bQ,hName,aE,aD]
 subst hV
 refine aU fun V hV=>?_
 refine gY (S:=⟨none,numbered (dJ t)⟩) (M1:=M) (fun R r=>by simp! only [hz,vL,aE,aD];exact r)
  (fun i τ Mi=>∃ z2 z3:Option U,τ=[some t.toU,some (.lst ((pP t i).map bI)),z2,z3]/\Mi=M) ⟨none,none,by rw [Sz];rfl,rfl⟩ nk ?_ ?_
 ·rintro i x τ Mi e ⟨z2,z3,rfl,rfl⟩
  obtain ⟨u,hu,rfl⟩:=sM e
  refine ⟨rfl,?_⟩
  simp! only [lL,mE,pE,hName,aE,aD]
  refine cG fun A B hA hB=>?_
  rcases RR hu with ⟨hp,⟨k,rfl⟩ | ⟨y,rfl⟩⟩ | ⟨a,ha,rfl⟩
  ·simp! only [aE,aE,aD]
   subst hB
   simp only [b7]
   exact ⟨_,_,by rw [Gr hp],trivial⟩
  ·simp! only [aE,aE,aD]
   subst hB
   simp only [b7]
   exact ⟨_,_,by rw [Gr hp],trivial⟩
  ·have hl:=oS (List.mem_of_getElem? ha)
   have hsl:=j2 a
   have hst:=U6 t i
   simp! only [Dj,aD]
   subst hA
   simp! only [bQ,hName,aE,aD]
   refine gJ (S:=⟨none,(fO a).map bI⟩) (M1:=Mi) (((fO a).map (i :: ·)).map bI) (fun R r=>⟨a,rfl,by omega,by omega,r⟩) (by simp) (small (by show ((fO a).map bI).length<=_;rw [List.length_map];omega)) (fun a e=>by cases e) ?_ ?_
   ·intro j x y hx hy M' hS R r'
    have hx':((fO a).map bI)[j]?=some x:=hx
    rw [List.getElem?_map] at hx' hy
    rw [List.getElem?_map] at hy
    cases hj:(fO a)[j]? with
    | none=>rw [hj] at hx';cases hx'
    | some p =>
     rw [hj] at hx' hy
     cases hx';cases hy
     have hps:=nW a p (List.mem_of_getElem? hj)
     simp! only [hName,bI,aE,aD]
     exact ⟨small (by rw [List.length_map];omega),r'⟩
   ·simp! only [aE,aD]
    refine ⟨small (by simp only [List.length_map];omega),some (.int (i:Int)),some a.toU,?_⟩
    rw [Q6 ha,List.map_append]
 ·rintro τ Mi ⟨z2,z3,rfl,rfl⟩
  subst hV
  have hlen:(Src.mk none (numbered (dJ t))).xs.length=(dJ t).length:=by show (numbered (dJ t)).length=_;rw [sR]
  rw [hlen,Ve]
  simp! only [cE,aE,aD]
  exact aO q
theorem zI (F:b9 K "_law_spots" "_law_spots" gS f fd) (hm:mg "_law_spots"=some (.ref f)) (iS:mg "enumerate"=none) (aP:mg "isinstance"=none) (bN:mg "tuple"=none):∀ n,Callee P w K mg base n "_law_spots" (nH n) []
 | 0=>by
  have no:∀ us M Q,¬ nH 0 us M Q:=fun us M Q h=>by
   obtain ⟨t,_,h,_⟩:=h
   have:=lO t
   omega
  refine ⟨f,fd,["tree"],[],[],⟨fun vs H Q E h=>?_,fun A outer s H args us vs Q E _ _ _ _ h=>?_⟩,hm,F.kp,F.binds (g9 fun _ _ _ _ _ _ _=>rfl),.nil,fun H M=>.nil⟩
  ·obtain ⟨us,M,Q',_,_,h,_⟩:=h;exact absurd h (no us M Q')
  ·obtain ⟨us,M,Q',_,_,h,_⟩:=h;exact absurd h (no us M Q')
 | n + 1=>N3 F hm iS aP bN (zI F hm iS aP bN n)
def hd:Tr->Str
 | .num _=>"num"
 | .name _=>"name"
 | .turn _=>"turn"
 | .two o _ _=>o.word
theorem mP (t:Tr):t.toU=.tup (.str (hd t) :: dJ t):=by cases t <;> rfl
def hW (t:Tr):List (Wo × Tr):=Gx.filterMap fun o=>(o.chg t).map fun x=>(o,x)
def jY (e:Wo × Tr):U:=.tup [.str e.1.word,e.2.toU]
theorem pW {a:Tr} {o:Op} (h:hd a=o.word):∃ x y,a=.two o x y:=by
 cases a with
 | num n=>cases o <;> simp only [hd,Op.word,wx] at h
 | name x=>cases o <;> simp only [hd,Op.word,wx] at h
 | turn b=>cases o <;> simp only [hd,Op.word,wx] at h
 | two o2 x y=>cases o <;> cases o2 <;> first | exact ⟨x,y,rfl⟩ | simp only [hd,Op.word,wx] at h
theorem yK {a:Tr} (h:hd a=Str.ofString "turn"):∃ x,a=.turn x:=by
 cases a with
 | num n=>simp only [hd,wx] at h
 | name x=>simp only [hd,wx] at h
 | turn b=>exact ⟨b,rfl⟩
 | two o2 x y=>cases o2 <;> simp only [hd,Op.word,wx] at h
theorem Pa {o:Op} {a b:Tr} (h:¬ hd a=o.word):cI (.two o a b)=none:=by
 cases o <;> cases a <;> first | rfl | (rename_i o2 _ _;cases o2 <;> first | rfl | exact absurd rfl h)
theorem Rw {o:Op} {a b:Tr} (h:¬ hd b=o.word):eG (.two o a b)=none:=by
 cases o <;> cases b <;> first | rfl | (rename_i o2 _ _;cases o2 <;> first | rfl | exact absurd rfl h)
theorem Sy {a b:Tr} (h:¬ hd b=Str.ofString "turn"):fF (.two .sum a b)=none:=by
 cases b <;> first | rfl | exact absurd rfl h
theorem UC {a:Tr} (h:¬ hd a=Str.ofString "turn"):jW (.turn a)=none:=by
 cases a <;> first | rfl | exact absurd rfl h
def Qc:dA:=fun us M Q=>∃ t:Tr,us=[t.toU]/\Q (.lst ((hW t).map jY)) M
def cK (o:Wo):Option Tr->List (Wo × Tr)
 | some x=>[(o,x)]
 | none=>[]
theorem Va (t:Tr):hW t=cK .swap (gB t)++cK .right (cI t)++cK .left (eG t)++cK .open_ (gI t)++cK .shut (fF t)++cK .off (jW t):=by
 unfold hW Gx
 simp only [List.filterMap_cons,List.filterMap_nil,Wo.chg]
 cases gB t <;> cases cI t <;> cases eG t <;> cases gI t <;> cases fF t <;> cases jW t <;> rfl
theorem Pc {o:Op} (ho:o≠.less) (a b:Tr):gB (.two o a b)=some (.two o b a):=by cases o <;> first | rfl | exact absurd rfl ho
theorem Nv {o:Op} (ho:o≠.less) (x y b:Tr):cI (.two o (.two o x y) b)=some (.two o x (.two o y b)):=by cases o <;> first | rfl | exact absurd rfl ho
theorem NQ {o:Op} (ho:o≠.less) (a x y:Tr):eG (.two o a (.two o x y))=some (.two o (.two o a x) y):=by cases o <;> first | rfl | exact absurd rfl ho
theorem Wz {o:Op} (ho:o≠.less):([U.str (Str.ofString "sum"),U.str (Str.ofString "by")].any fun u=>nP u (.str o.word))=true:=by cases o <;> first | (decide +kernel) | exact absurd rfl ho
theorem VO {z:Str} (h1:¬ z=Str.ofString "sum") (h2:¬ z=Str.ofString "by"):([U.str (Str.ofString "sum"),U.str (Str.ofString "by")].any fun u=>nP u (.str z))=false:=by
 have e1:(Str.ofString "sum" == z)=false:=by simpa using fun e=>h1 e.symm
 have e2:(Str.ofString "by" == z)=false:=by simpa using fun e=>h2 e.symm
 simp only [List.any_cons,List.any_nil,nP,e1,e2,Bool.or_self]
theorem Vv {t:Tr} (h:∀ o a b,t=.two o a b->o=.less):¬ hd t=Str.ofString "sum"/\¬ hd t=Str.ofString "by":=by
 refine ⟨fun e=>?_,fun e=>?_⟩
 ·obtain ⟨x,y,rfl⟩:=pW (o:=.sum) e
  have:=h _ _ _ rfl;cases this
 ·obtain ⟨x,y,rfl⟩:=pW (o:=.by_) e
  have:=h _ _ _ rfl;cases this
theorem Oh {t:Tr} (h:∀ o a b,t=.two o a b->o=.less):gB t=none/\cI t=none/\eG t=none:=by
 cases t with
 | two o a b=>cases h o a b rfl;exact ⟨rfl,rfl,rfl⟩
 | _=>exact ⟨rfl,rfl,rfl⟩
theorem Sf {t:Tr} (h:¬ hd t=Str.ofString "less"):gI t=none:=by
 cases t with
 | two o a b=>cases o <;> first | rfl | exact absurd rfl h
 | _=>rfl
theorem Ov {t:Tr} (h:¬ hd t=Str.ofString "sum"):fF t=none:=by
 cases t with
 | two o a b=>cases o <;> first | rfl | exact absurd rfl h
 | _=>rfl
theorem QW {t:Tr} (h:¬ hd t=Str.ofString "turn"):jW t=none:=by
 cases t with
 | turn a=>exact absurd rfl h
 | _=>rfl
theorem lK (L:List (Wo × Tr)) (h:L.length<=6):(L.map jY).length < sizeLine:=big (by rw [List.length_map];omega)
theorem lW (o:Wo) (x:Option Tr):(cK o x).length<=1:=by cases x <;> simp [cK]
theorem Ug (F:b9 K "_law_otherwise" "_law_otherwise" eO f fd) (hm:mg "_law_otherwise"=some (.ref f)):Callee P w K mg base 1 "_law_otherwise" Qc []:=by
 refine bL F hm oA (g9 fun _ _ _ _ _ _ _=>rfl) (aH (bF 1 oA.nd (dI (own:=true) aB))
 (aH (bY (bW Te (aQ (uv 0) aK) (dI (own:=false) (aA bR (aA bR aB))))
 (aH (iM (gM (uv 1) (aA (aW (aA bR (aA (aW (aA (aQ (uv 0) aK) (aA (aQ (uv 0) aK) (aA (aQ (uv 0) aK) aB)))) aB))) aB)))
 (aH (bY (bW cM (aQ (aQ (uv 0) aK) aK) (aQ (uv 0) aK))
 (aJ (iM (gM (uv 1) (aA (aW (aA bR (aA (aW (aA (aQ (uv 0) aK) (aA (aQ (aQ (uv 0) aK) aK) (aA (aW (aA (aQ (uv 0) aK) (aA (aQ (aQ (uv 0) aK) aK) (aA (aQ (uv 0) aK) aB)))) aB)))) aB))) aB))))
 bH)
 (aJ (bY (bW cM (aQ (aQ (uv 0) aK) aK) (aQ (uv 0) aK))
 (aJ (iM (gM (uv 1) (aA (aW (aA bR (aA (aW (aA (aQ (uv 0) aK) (aA (aW (aA (aQ (uv 0) aK) (aA (aQ (uv 0) aK) (aA (aQ (aQ (uv 0) aK) aK) aB)))) (aA (aQ (aQ (uv 0) aK) aK) aB)))) aB))) aB))))
 bH))))
 bH)
 (aH (bY (bW cM (aQ (uv 0) aK) bR)
 (aJ (iM (gM (uv 1) (aA (aW (aA bR (aA (aW (aA bR (aA (aQ (uv 0) aK) (aA (aW (aA bR (aA (aQ (uv 0) aK) aB))) aB)))) aB))) aB))))
 bH)
 (aH (bY (iJ.pt (nS (bW cM (aQ (uv 0) aK) bR) (lP (bW cM (aQ (aQ (uv 0) aK) aK) bR))))
 (aJ (iM (gM (uv 1) (aA (aW (aA bR (aA (aW (aA bR (aA (aQ (uv 0) aK) (aA (aQ (aQ (uv 0) aK) aK) aB)))) aB))) aB))))
 bH)
 (aH (bY (iJ.pt (nS (bW cM (aQ (uv 0) aK) bR) (lP (bW cM (aQ (aQ (uv 0) aK) aK) bR))))
 (aJ (iM (gM (uv 1) (aA (aW (aA bR (aA (aQ (aQ (uv 0) aK) aK) aB))) aB))))
 bH)
 (aJ (aZ (uv 1)))))))) ?_
 rintro us M Q ⟨t,rfl,q⟩
 refine ⟨rfl,?_⟩
 refine aU fun V hV=>?_
 simp! only [bQ,hName,aE,aD]
 intro r hr
 subst hV
 have app:∀ (L:List (Wo × Tr)) (o:Wo) (x:Tr),(L.map jY)++[U.tup [.str o.word,x.toU]]=(L++[(o,x)]).map jY:=fun L o x=>by simp [jY]
 refine aU fun V hV=>?_
 have s4:V [some t.toU,some (.ref r)] (mup M r (.lst ((cK .swap (gB t)++cK .right (cI t)++cK .left (eG t)).map jY))):=by
  have hL:(cK .swap (gB t)++cK .right (cI t)++cK .left (eG t)).length<=3:=by
   have:=lW .swap (gB t);have:=lW .right (cI t);have:=lW .left (eG t)
   simp only [List.length_append];omega
  rw [Va] at q
  generalize cK .swap (gB t)++cK .right (cI t)++cK .left (eG t)=L3 at q hL
  subst hV
  refine aU fun V hV=>?_
  have s5:V [some t.toU,some (.ref r)] (mup M r (.lst ((L3++cK .open_ (gI t)).map jY))):=by
   have hL4:(L3++cK .open_ (gI t)).length<=4:=by have:=lW .open_ (gI t);rw [List.length_append];omega
   generalize L3++cK .open_ (gI t)=L4 at q hL4
   subst hV
   refine aU fun V hV=>?_
   have s6:V [some t.toU,some (.ref r)] (mup M r (.lst ((L4++cK .shut (fF t)).map jY))):=by
    have hL5:(L4++cK .shut (fF t)).length<=5:=by have:=lW .shut (fF t);rw [List.length_append];omega
    generalize L4++cK .shut (fF t)=L5 at q hL5
    subst hV
    refine aU fun V hV=>?_
    have s7:V [some t.toU,some (.ref r)] (mup M r (.lst ((L5++cK .off (jW t)).map jY))):=by
     subst hV
     simp! only [cE,aE,aD]
     exact ⟨_,M,(Sub.refl M).mup hr,.inr ⟨r,_,rfl,aX,hr,rfl⟩,q⟩
    refine cG fun A B hA hB=>?_
    have hu:=mP t
    simp! only [hu,aE,aD]
    refine g0 (fun h=>?_) (fun h=>?_)
    ·obtain ⟨a,rfl⟩:=yK (of_decide_eq_true h)
     have hua:=mP a
     simp! only [dJ,hua,aE,aD]
     refine g0 (fun h=>?_) (fun h=>?_)
     ·obtain ⟨x,rfl⟩:=yK (of_decide_eq_true h)
      subst hA
      simp! only [hZ,Tr.toU,aE,aD]
      refine ⟨iW,lK L5 (by omega),?_⟩
      have e:=app L5 .off x
      simp only [Wo.word] at e
      rw [e]
      exact s7
     ·rw [UC (fun e=>h (decide_eq_true e))] at s7
      simp only [cK,List.append_nil] at s7
      subst hB
      simp only [b7]
      exact s7
    ·rw [QW (fun e=>h (decide_eq_true e))] at s7
     simp only [cK,List.append_nil] at s7
     subst hB
     simp only [b7]
     try rw [<- hu]
     exact s7
   refine cG fun A B hA hB=>?_
   have hu:=mP t
   simp! only [hu,aE,aD]
   refine g0 (fun h=>?_) (fun h=>?_)
   ·obtain ⟨a,b,rfl⟩:=pW (o:=.sum) (of_decide_eq_true h)
    have hub:=mP b
    simp! only [dJ,hub,aE,aD]
    refine g0 (fun h=>?_) (fun h=>?_)
    ·obtain ⟨x,rfl⟩:=yK (of_decide_eq_true h)
     subst hA
     simp! only [hZ,Tr.toU,aE,aD]
     refine ⟨iW,lK L4 (by omega),?_⟩
     have e:=app L4 .shut (.two .less a x)
     simp only [Wo.word,Tr.toU,Op.word] at e
     rw [e]
     exact s6
    ·rw [Sy (fun e=>h (decide_eq_true e))] at s6
     simp only [cK,List.append_nil] at s6
     subst hB
     simp only [b7]
     exact s6
   ·rw [Ov (fun e=>h (decide_eq_true e))] at s6
    simp only [cK,List.append_nil] at s6
    subst hB
    simp only [b7]
    try rw [<- hu]
    exact s6
  refine cG fun A B hA hB=>?_
  have hu:=mP t
  simp! only [hu,aE,aD]
  refine g0 (fun h=>?_) (fun h=>?_)
  ·obtain ⟨a,b,rfl⟩:=pW (o:=.less) (of_decide_eq_true h)
   subst hA
   simp! only [hZ,dJ,Tr.toU,aE,aD]
   refine ⟨iW,lK L3 (by omega),?_⟩
   have e:=app L3 .open_ (.two .sum a (.turn b))
   simp only [Wo.word,Tr.toU,Op.word] at e
   rw [e]
   exact s5
  ·rw [Sf (fun e=>h (decide_eq_true e))] at s5
   simp only [cK,List.append_nil] at s5
   subst hB
   simp only [b7]
   try rw [<- hu]
   exact s5
 refine cG fun A B hA hB=>?_
 have hu:=mP t
 by_cases hless:∀ o a b,t=.two o a b->o=.less
 ·obtain ⟨h1,h2⟩:=Vv hless
  obtain ⟨e1,e2,e3⟩:=Oh hless
  simp! only [hu,gU,List.all_cons,List.all_nil,VO h1 h2,Bool.and_self,aE,aD]
  rw [e1,e2,e3] at s4
  subst hB
  simp only [b7]
  try rw [<- hu]
  exact s4
 ·obtain ⟨o,a,b,ho,rfl⟩:∃ o a b,o≠Op.less/\t=.two o a b:=by
   cases t with
   | two o a b =>
    refine ⟨o,a,b,fun z=>hless fun o' a' b' e=>?_,rfl⟩
    cases e;exact z
   | _=>exact absurd (fun o a b e=>by cases e) hless
  simp! only [Tr.toU,gU,List.all_cons,List.all_nil,Wz ho,Bool.and_self,aE,aD]
  subst hA
  refine aU fun V2 hV2=>?_
  simp! only [hZ,Tr.toU,aE,aD]
  refine ⟨iW,lK [] (by simp),?_⟩
  have e0:=app [] .swap (.two o b a)
  simp only [Wo.word,Tr.toU,List.nil_append,List.map_nil] at e0
  rw [e0]
  rw [Pc ho] at s4
  subst hV2
  refine aU fun V2 hV2=>?_
  have s3:V2 [some (Tr.two o a b).toU,some (.ref r)] (mup M r (.lst (([(Wo.swap,Tr.two o b a)]++cK .right (cI (.two o a b))).map jY))):=by
   have hL2:([(Wo.swap,Tr.two o b a)]++cK .right (cI (.two o a b))).length<=2:=by have:=lW .right (cI (.two o a b));rw [List.length_append];simp only [List.length_cons,List.length_nil];omega
   have s4':V [some (Tr.two o a b).toU,some (.ref r)] (mup M r (.lst (([(Wo.swap,Tr.two o b a)]++cK .right (cI (.two o a b))++cK .left (eG (.two o a b))).map jY))):=s4
   generalize [(Wo.swap,Tr.two o b a)]++cK .right (cI (.two o a b))=L2 at s4' hL2
   subst hV2
   refine cG fun A B hA hB=>?_
   have hub:=mP b
   simp! only [Tr.toU,hub,aE,aD]
   refine g0 (fun h=>?_) (fun h=>?_)
   ·obtain ⟨x,y,rfl⟩:=pW (of_decide_eq_true h)
    subst hA
    simp! only [hZ,Tr.toU,dJ,aE,aD]
    refine ⟨iW,lK L2 (by omega),?_⟩
    have e:=app L2 .left (.two o (.two o a x) y)
    simp only [Wo.word,Tr.toU] at e
    rw [e]
    rw [NQ ho] at s4'
    exact s4'
   ·rw [Rw (fun e=>h (decide_eq_true e))] at s4'
    simp only [cK,List.append_nil] at s4'
    subst hB
    simp only [b7]
    try rw [<- hub]
    exact s4'
  refine cG fun A B hA hB=>?_
  have hua:=mP a
  simp! only [Tr.toU,hua,aE,aD]
  refine g0 (fun h=>?_) (fun h=>?_)
  ·obtain ⟨x,y,rfl⟩:=pW (of_decide_eq_true h)
   subst hA
   simp! only [hZ,Tr.toU,dJ,aE,aD]
   refine ⟨iW,lK [(Wo.swap,Tr.two o b (.two o x y))] (by simp),?_⟩
   rw [Nv ho] at s3
   exact s3
  ·rw [Pa (fun e=>h (decide_eq_true e))] at s3
   simp only [cK,List.append_nil] at s3
   subst hB
   simp only [b7]
   try rw [<- hua]
   exact s3
theorem oK:∀ (t:Tr) (p:List Nat) (a:Tr),t.at p=some a->p.length < t.dep
 | t,[],a,_=>by cases t <;> simp [Tr.dep]
 | .turn b,0 :: r,a,h=>by have:=oK b r a h;simp only [Tr.dep,List.length_cons];omega
 | .two _ b c,0 :: r,a,h=>by have:=oK b r a h;simp only [Tr.dep,List.length_cons];omega
 | .two _ b c,1 :: r,a,h=>by have:=oK c r a h;simp only [Tr.dep,List.length_cons];omega
 | .num _,_ :: _,a,h=>by simp [Tr.at] at h
 | .name _,_ :: _,a,h=>by simp [Tr.at] at h
 | .turn b,(k + 1) :: r,a,h=>by simp [Tr.at] at h
 | .two _ b c,(k + 2) :: r,a,h=>by simp [Tr.at] at h
theorem Rn {o:Wo} {t x:Tr} (h:o.chg t=some x):x.dep<=t.dep + 1:=by
 cases o <;> simp only [Wo.chg] at h
 ·unfold gB at h;split at h <;> cases h <;> (simp only [Tr.dep];omega)
 ·unfold cI at h;split at h <;> cases h <;> (simp only [Tr.dep];omega)
 ·unfold eG at h;split at h <;> cases h <;> (simp only [Tr.dep];omega)
 ·unfold gI at h;split at h <;> cases h;simp only [Tr.dep];omega
 ·unfold fF at h;split at h <;> cases h;simp only [Tr.dep];omega
 ·unfold jW at h;split at h <;> cases h;simp only [Tr.dep];omega
theorem NX {o:Wo} {t x:Tr} (h:o.chg t=some x):x.size<=t.size + 1:=by
 cases o <;> simp only [Wo.chg] at h
 ·unfold gB at h;split at h <;> cases h <;> (simp only [Tr.size];omega)
 ·unfold cI at h;split at h <;> cases h <;> (simp only [Tr.size];omega)
 ·unfold eG at h;split at h <;> cases h <;> (simp only [Tr.size];omega)
 ·unfold gI at h;split at h <;> cases h;simp only [Tr.size];omega
 ·unfold fF at h;split at h <;> cases h;simp only [Tr.size];omega
 ·unfold jW at h;split at h <;> cases h;simp only [Tr.size];omega
theorem uQ:∀ (t:Tr) (p:List Nat) (a x:Tr),t.at p=some a->x.dep<=a.dep + 1->(bZ t p x).dep<=t.dep + 1
 | t,[],a,x,h,hx=>by rw [cH] at h;cases h;rw [pV];exact hx
 | .turn b,0 :: r,a,x,h,hx=>by have:=uQ b r a x h hx;simp only [bZ,Tr.dep];omega
 | .two _ b c,0 :: r,a,x,h,hx=>by have:=uQ b r a x h hx;simp only [bZ,Tr.dep];omega
 | .two _ b c,1 :: r,a,x,h,hx=>by have:=uQ c r a x h hx;simp only [bZ,Tr.dep];omega
 | .num _,_ :: _,a,x,h,hx=>by simp [Tr.at] at h
 | .name _,_ :: _,a,x,h,hx=>by simp [Tr.at] at h
 | .turn b,(k + 1) :: r,a,x,h,hx=>by simp [Tr.at] at h
 | .two _ b c,(k + 2) :: r,a,x,h,hx=>by simp [Tr.at] at h
theorem qS:∀ (t:Tr) (p:List Nat) (a x:Tr),t.at p=some a->x.size<=a.size + 1->(bZ t p x).size<=t.size + 1
 | t,[],a,x,h,hx=>by rw [cH] at h;cases h;rw [pV];exact hx
 | .turn b,0 :: r,a,x,h,hx=>by have:=qS b r a x h hx;simp only [bZ,Tr.size];omega
 | .two _ b c,0 :: r,a,x,h,hx=>by have:=qS b r a x h hx;simp only [bZ,Tr.size];omega
 | .two _ b c,1 :: r,a,x,h,hx=>by have:=qS c r a x h hx;simp only [bZ,Tr.size];omega
 | .num _,_ :: _,a,x,h,hx=>by simp [Tr.at] at h
 | .name _,_ :: _,a,x,h,hx=>by simp [Tr.at] at h
 | .turn b,(k + 1) :: r,a,x,h,hx=>by simp [Tr.at] at h
 | .two _ b c,(k + 2) :: r,a,x,h,hx=>by simp [Tr.at] at h
def oN (t:Tr) (e:List Nat × Tr):List (Wo × List Nat × Tr):=(j5 t e).filter fun e=>lA e.2.2
theorem Sd (t:Tr):eM t=(cF [] t).flatMap (oN t):=by
 unfold eM pA oN
 rw [List.filter_flatMap]
theorem OZ (t:Tr) (e:List Nat × Tr):j5 t e=(hW e.2).map fun x=>(x.1,e.1,bZ t e.1 x.2):=by
 unfold j5 hW
 rw [List.map_filterMap]
 congr 1
 funext o
 cases o.chg e.2 <;> rfl
theorem RG {t:Tr} {e:Wo × Tr} (h:e∈hW t):e.1.chg t=some e.2:=by
 unfold hW at h
 obtain ⟨o,_,ho⟩:=List.mem_filterMap.mp h
 cases hc:o.chg t with
 | none=>rw [hc] at ho;cases ho
 | some x=>rw [hc] at ho;cases ho;exact hc
theorem So (t:Tr):(hW t).length<=6:=List.length_filterMap_le _ _
def Qr:dA:=fun us M Q=>∃ t:Tr,us=[t.toU]/\t.dep<=45/\t.size<=900/\Q (.lst ((eM t).map gE)) M
theorem S4 (F:b9 K "_law_all" "_law_all" kL f fd) (hm:mg "_law_all"=some (.ref f)) (j9:Callee P w K mg base 50 "_law_spots" (nH 50) []) (wX:Callee P w K mg base 1 "_law_otherwise" Qc []) (NT:Callee P w K mg base 1 "_law_at" U8 []) (qL:Callee P w K mg base 50 "_law_with" (sN 50) []) (qK:Callee P w K mg base 50 "_law_size" (sJ 50) []) (rO:Callee P w K mg base 50 "_law_deep" (sP 50) []):Callee P w K mg base 51 "_law_all" Qr []:=by
 refine bL F hm jP (g9 fun _ _ _ _ _ _ _=>rfl) (aH (bF 1 jP.nd (dI (own:=true) aB))
 (aH (gK (fB (aV j9 (aA (uv 0) aB))) (bX (k:=1000) 2 jP.nd)
 (aJ (gK (fB (aV wX (aA (aV NT (aA (uv 0) (aA (uv 2) aB))) aB))) (xJ (n:=2) (jC (bX (k:=1000) 3 jP.nd) (jC (bX (k:=1000) 4 jP.nd) tV)))
 (aH (bF 5 jP.nd (aV qL (aA (uv 0) (aA (uv 2) (aA (uv 4) aB)))))
 (aJ (bY (iJ.pt (nS (bW vB (aV qK (aA (uv 5) aB)) aK) (lP (bW vB (aV rO (aA (uv 5) aB)) aK))))
 (aJ (iM (gM (uv 1) (aA (aW (aA (aW (aA (uv 3) (aA (uv 2) aB))) (aA (uv 5) aB))) aB))))
 bH))))))
 (aJ (aZ (uv 1))))) ?_
 rintro us M Q ⟨t,rfl,hd,hs,q⟩
 refine ⟨rfl,?_⟩
 have hpl:(cF [] t).length=t.size:=pS t []
 have hfst:(cF [] t).map (fun e=>bI e.1)=(fO t).map bI:=by
  have:=congrArg (List.map bI) (wL t [])
  rw [List.map_map,List.map_map] at this
  simpa [Function.comp_def] using this
 have hexl:∀ i,(((cF [] t).take i).flatMap (oN t)).length<=6 * t.size:=fun i=>by
  have h1:∀ l:List (List Nat × Tr),(l.flatMap (oN t)).length<=6 * l.length:=fun l=>by
   induction l with
   | nil=>simp
   | cons e l ih =>
    have:(oN t e).length<=6:=Nat.le_trans (List.length_filter_le _ _) (AX t e)
    rw [List.flatMap_cons,List.length_append,List.length_cons];omega
  have:=h1 ((cF [] t).take i)
  rw [List.length_take] at this
  omega
 refine aU fun V hV=>?_
 simp! only [bQ,hName,aE,aD]
 intro r hr
 subst hV
 refine aU fun V hV=>?_
 refine gY (S:=⟨none,(cF [] t).map fun e=>bI e.1⟩) (M1:=mup M r (.lst [])) (fun R r=>by rw [hfst] at r;exact ⟨t,rfl,by omega,by omega,r⟩)
  (fun i τ Mi=>∃ z2 z3 z4 z5:Option U,τ=[some t.toU,some (.ref r),z2,z3,z4,z5]/\Mi=mup M r (.lst ((((cF [] t).take i).flatMap (oN t)).map gE))) ⟨none,none,none,none,rfl,by simp⟩ nk ?_ ?_
 ·rintro i x τ Mi e ⟨z2,z3,z4,z5,rfl,rfl⟩
  have e':((cF [] t).map fun e=>bI e.1)[i]?=some x:=e
  rw [List.getElem?_map] at e'
  cases hj:(cF [] t)[i]? with
  | none=>rw [hj] at e';cases e'
  | some pe =>
   rw [hj] at e'
   cases e'
   have hat:=oF t t [] (cH t) pe (List.mem_of_getElem? hj)
   have hshort:=lS t pe.1 pe.2 hat
   have htk:(cF [] t).take (i + 1)=(cF [] t).take i++[pe]:=by rw [List.take_add_one,hj];rfl
   have hdl:=hexl i
   generalize hdn:((cF [] t).take i).flatMap (oN t)=dn at hdl
   simp! only [hName,aE,aD]
   refine gY (S:=⟨none,(hW pe.2).map jY⟩) (M1:=mup M r (.lst (dn.map gE))) (fun R r=>by
     simp! only [aE,aD]
     refine ⟨t,pe.2,pe.1,rfl,hat,?_⟩
     simp! only [aE,aD]
     exact ⟨pe.2,rfl,r⟩)
    (fun j τ Mi=>∃ z3 z4 z5:Option U,τ=[some t.toU,some (.ref r),some (bI pe.1),z3,z4,z5]/\Mi=mup M r (.lst ((dn++(((hW pe.2).take j).map fun x=>(x.1,pe.1,bZ t pe.1 x.2)).filter fun e=>lA e.2.2).map gE))) ⟨z3,z4,z5,rfl,by simp⟩ nk ?_ ?_
   ·rintro j y τ Mi e2 ⟨y3,y4,y5,rfl,rfl⟩
    have e3:((hW pe.2).map jY)[j]?=some y:=e2
    rw [List.getElem?_map] at e3
    cases hoj:(hW pe.2)[j]? with
    | none=>rw [hoj] at e3;cases e3
    | some ox =>
     rw [hoj] at e3
     cases e3
     have hch:=RG (List.mem_of_getElem? hoj)
     have hdw:=uQ t pe.1 pe.2 ox.2 hat (Rn hch)
     have hsw:=qS t pe.1 pe.2 ox.2 hat (NX hch)
     have htj:(hW pe.2).take (j + 1)=(hW pe.2).take j++[ox]:=by rw [List.take_add_one,hoj];rfl
     have hfl:((((hW pe.2).take j).map fun x=>(x.1,pe.1,bZ t pe.1 x.2)).filter fun e=>lA e.2.2).length<=6:=by
      refine Nat.le_trans (List.length_filter_le _ _) ?_
      rw [List.length_map,List.length_take]
      have:=So pe.2
      omega
     refine ⟨rfl,?_⟩
     simp! only [lL,mE,pE,hName,jY,aE,aD]
     refine aU fun V2 hV2=>?_
     simp! only [bQ,hName,aE,aD]
     refine ⟨t,pe.2,ox.2,pe.1,rfl,hat,by have:=oK t pe.1 pe.2 hat;omega,by omega,?_⟩
     subst hV2
     refine cG fun A B hA hB=>?_
     simp! only [aE,aD]
     refine ⟨bZ t pe.1 ox.2,rfl,by omega,by omega,?_⟩
     have no:lA (bZ t pe.1 ox.2)=false->B (mup M r (.lst ((dn++(((hW pe.2).take j).map fun x=>(x.1,pe.1,bZ t pe.1 x.2)).filter fun e=>lA e.2.2).map gE))):=fun h=>by
      subst hB
      simp only [b7]
      refine ⟨_,_,_,rfl,?_⟩
      rw [htj]
      simp [h]
     dsimp only
     by_cases h1:(bZ t pe.1 ox.2).size<=200
     ·rw [if_pos (decide_eq_true (by omega))]
      refine ⟨bZ t pe.1 ox.2,rfl,by omega,by omega,?_⟩
      dsimp only
      by_cases h2:(bZ t pe.1 ox.2).dep<=40
      ·rw [if_pos (decide_eq_true (by omega))]
       have hok:lA (bZ t pe.1 ox.2)=true:=by simp [lA,h1,h2]
       subst hA
       simp! only [hZ,aE,aD]
       refine ⟨iW,big (by rw [List.length_map,List.length_append];omega),_,_,_,rfl,?_⟩
       rw [htj]
       simp [hok,gE]
      ·rw [if_neg (by simp;omega)]
       exact no (by simp [lA];omega)
     ·rw [if_neg (by simp;omega)]
      exact no (by simp [lA];omega)
   ·rintro τ Mi ⟨y3,y4,y5,rfl,rfl⟩
    have hol:(Src.mk none ((hW pe.2).map jY)).xs.length=(hW pe.2).length:=by show ((hW pe.2).map jY).length=_;rw [List.length_map]
    refine ⟨_,_,_,_,rfl,?_⟩
    rw [hol,List.take_length,<- OZ t pe,htk,List.flatMap_append,hdn]
    simp [oN]
 ·rintro τ Mi ⟨z2,z3,z4,z5,rfl,rfl⟩
  subst hV
  have hlen:(Src.mk none ((cF [] t).map fun e=>bI e.1)).xs.length=(cF [] t).length:=by show ((cF [] t).map _).length=_;rw [List.length_map]
  rw [hlen,List.take_length,<- Sd]
  simp! only [cE,aE,aD]
  exact ⟨_,M,(Sub.refl M).mup hr,.inr ⟨r,_,rfl,aX,hr,rfl⟩,q⟩
theorem mulL {i j:Int} (h1:-(2 ^ 64) < i) (h2:i < 2 ^ 64):oO i j:=.inl (.inl ⟨h1,h2⟩)
theorem mulR {i j:Int} (h1:-(2 ^ 64) < j) (h2:j < 2 ^ 64):oO i j:=.inl (.inr ⟨h1,h2⟩)
def cD (d x:Int):List U:=[.int d,.int x]
def K7:dA:=fun us M Q=>∃ (ns:List Int) (k:Nat),us=[.lst (ns.map U.int),.int (k:Int)]/\k<=100/\∀ (r:Addr) (d x:Int),M r=none->0<=d->0<=x->x<=2147484647->Q (.ref r) (mup M r (.lst (cD d x)))
def mJ:dA:=fun us M Q=>∃ (f:Addr) (d x m:Int),us=[.ref f,.int m]/\M f=some (.lst (cD d x))/\0<=d/\0<=x/\x<=2147484647/\0 < m/\m < 2 ^ 64/\∀ n d' x':Int,0<=n->n < m->0<=d'->0<=x'->x'<=2147484647->Q (.int n) (mup M f (.lst (cD d' x')))
theorem Su (F:b9 K "_law_take" "_law_take" jR f fd) (hm:mg "_law_take"=some (.ref f)):Callee P w K mg base 1 "_law_take" mJ []:=by
 refine bL F hm u0 (r0 fun _ _ _ _ _ _ _ _=>rfl) (aH (bY (bW Dc (aQ (uv 0) aK) aK)
 (aH (bF 2 u0.nd (pG (aQ (uv 0) aK) (uv 1)))
 (aH (GY (tT (aQ (uv 0) aK) (uv 1)) (uv 0) aK)
 (aJ (aZ (uv 2)))))
 bH)
 (aH (GY (pG (bV (own:=false) (jS (own:=false) (aQ (uv 0) aK) aK) aK) aK) (uv 0) aK)
 (aJ (aZ (pG (tT (aQ (uv 0) aK) aK) (uv 1)))))) ?_
 rintro us M Q ⟨r,d,x,m,rfl,hM,hd,hx,hx2,hm0,hm1,q⟩
 refine ⟨rfl,?_⟩
 have vr:view M (.ref r)=.lst (cD d x):=jA hM
 refine aU fun V hV=>?_
 refine cG fun A B hA hB=>?_
 simp! only [vr,cD,aE,aD]
 refine g0 (fun h=>?_) (fun h=>?_)
 ·subst hA
  refine aU fun V2 hV2=>?_
  simp! only [bQ,hName,vr,cD,aE,aD]
  refine ⟨hm0,?_⟩
  subst hV2
  refine aU fun V2 hV2=>?_
  simp! only [xD,vr,cD,aE,aD]
  rw [hM]
  simp! only [cD,aE,aD]
  refine ⟨⟨hm0,hm1⟩,0,rfl,?_⟩
  subst hV2
  simp! only [cE,aE,aD]
  exact aO (q (d % m) (d / m) x (Int.emod_nonneg _ (by omega)) (Int.emod_lt_of_pos _ hm0) (Int.ediv_nonneg hd (by omega)) hx hx2)
 ·subst hB
  simp only [b7]
  subst hV
  refine aU fun V2 hV2=>?_
  simp! only [xD,vr,cD,aE,aD]
  rw [hM]
  refine ⟨mulR (by decide) (by decide),by decide,1,rfl,?_⟩
  have hxx:0<=(x * 69621 + 12345) % 2147483647/\(x * 69621 + 12345) % 2147483647<=2147484647:=by omega
  generalize (x * 69621 + 12345) % 2147483647=y at hxx
  have hy:mup M r (.lst ([U.int d,U.int x].set 1 (.int y)))=mup M r (.lst (cD d y)):=rfl
  show V2 _ (mup M r (.lst ([U.int d,U.int x].set 1 (.int y))))
  rw [hy]
  subst hV2
  have v2:view (mup M r (.lst (cD d y))) (.ref r)=.lst (cD d y):=jA aX
  simp! only [cE,v2,cD,aE,aD]
  exact ⟨⟨by decide,by decide⟩,hm0,aO (q (y / 8191 % m) d y (Int.emod_nonneg _ (by omega)) (Int.emod_lt_of_pos _ hm0) hd hxx.1 hxx.2)⟩
theorem R9 (F:b9 K "_law_feed" "_law_feed" jG f fd) (hm:mg "_law_feed"=some (.ref f)) (bT:mg "len"=none):Callee P w K mg base 1 "_law_feed" K7 []:=by
 refine bL F hm jZ (r0 fun _ _ _ _ _ _ _ _=>rfl) (aH (bF 2 jZ.nd aK)
 (aH (bY (bW xC (uv 1) (cQ hX bT (aA (uv 0) aB)))
 (aJ (bF 2 jZ.nd (aQ (uv 0) (uv 1))))
 bH)
 (aH (bF 3 jZ.nd aK)
 (aH (bY (bW WO (uv 2) (Bi aK aK))
 (aJ (bF 3 jZ.nd (lD (uv 2) (Bi aK aK))))
 bH)
 (aJ (aZ (dI (own:=true) (aA (uv 3) (aA (bV (own:=false) (bV (own:=false) (pG (jS (own:=false) (pG (uv 2) aK) aK) aK) (jS (own:=false) aK (uv 1))) aK) aB))))))))) ?_
 rintro us M Q ⟨ns,k,rfl,hk,q⟩
 refine ⟨rfl,?_⟩
 refine aU fun V hV=>?_
 simp! only [bQ,hName,aE,aD]
 subst hV
 refine aU fun V hV=>?_
 have rest:∀ c:Int,V [some (.lst (ns.map U.int)),some (.int (k:Int)),some (.int c),none] M:=by
  intro c
  subst hV
  refine aU fun V hV=>?_
  simp! only [bQ,hName,aE,aD]
  subst hV
  refine aU fun V hV=>?_
  have last:∀ d:Int,0<=d->V [some (.lst (ns.map U.int)),some (.int (k:Int)),some (.int c),some (.int d)] M:=by
   intro d hd
   subst hV
   simp! only [cE,aE,aD]
   refine ⟨by decide,mulR (by decide) (by decide),by decide,mulL (by decide) (by decide),fun r hr=>?_⟩
   have h1:=Int.emod_nonneg (c % 2147483647 * 48271) (show (2147483647:Int)≠0 by decide)
   have h2:=Int.emod_lt_of_pos (c % 2147483647 * 48271) (show (0:Int) < 2147483647 by decide)
   exact aO (q r d _ hr hd (by omega) (by omega))
  refine cG fun A B hA hB=>?_
  simp! only [aE,aD]
  refine ⟨⟨by decide,by decide⟩,g0 (fun h=>?_) (fun h=>?_)⟩
  ·subst hA
   simp! only [bQ,hName,aE,aD]
   have h':=of_decide_eq_true h
   exact ⟨⟨by decide,by decide,by decide⟩,last _ (Int.sub_nonneg.mpr h')⟩
  ·subst hB
   simp only [b7]
   exact last 0 (by decide)
 refine cG fun A B hA hB=>?_
 simp! only [List.length_map,aE,aD]
 refine g0 (fun h=>?_) (fun h=>?_)
 ·subst hA
  have hlt:k < ns.length:=by have:=of_decide_eq_true h;omega
  have hat:eF (ns.map U.int) (k:Int)=some (.int ns[k]):=eC (by rw [List.getElem?_map,List.getElem?_eq_getElem hlt];rfl)
  simp! only [bQ,hName,hat,aE,aD]
  exact rest _
 ·subst hB
  simp only [b7]
  exact rest 0
def Cm:dA:=fun us M Q=>∃ (f:Addr) (d x:Int) (m:Nat),us=[.ref f,.int (m:Int)]/\M f=some (.lst (cD d x))/\0<=d/\0<=x/\x<=2147484647/\m<=3/\∀ (names:List Str) (d' x':Int),names.length=m->(∀ s∈names,isName (.str s)=true)->0<=d'->0<=x'->x'<=2147484647->Q (.lst (names.map U.str)) (mup M f (.lst (cD d' x')))
def qD:Str:=Str.ofString "abcdefghijklmnopqrstuvwxyz"
theorem KS {n:Int} (h0:0<=n) (h1:n < 26):∃ c,eF qD.cps.toList n=some c/\isLetter c=true:=by
 have hl:qD.cps.toList.length=26:=by decide +kernel
 have hlt:n.toNat < qD.cps.toList.length:=by omega
 refine ⟨qD.cps.toList[n.toNat],?_,?_⟩
 ·have:=eC (xs:=qD.cps.toList) (j:=n.toNat) (List.getElem?_eq_getElem hlt)
  rw [Int.toNat_of_nonneg h0] at this
  exact this
 ·have hall:qD.cps.toList.all isLetter=true:=by decide +kernel
  exact List.all_eq_true.mp hall _ (List.getElem_mem hlt)
theorem BI (c:Nat):∀ (k:Nat) (acc:Array Nat),((List.replicate k (#[c]:Array Nat)).foldl (·++·) acc).toList=acc.toList++List.replicate k c
 | 0,acc=>by simp
 | k + 1,acc=>by
  rw [List.replicate_succ,List.foldl_cons,BI c k,List.replicate_succ]
  simp
theorem tY (c:Nat) (n:Int):(iZ ⟨#[c]⟩ n).cps.toList=List.replicate n.toNat c:=by
 unfold iZ
 by_cases h:n < 1
 ·rw [if_pos h,show n.toNat=0 by omega];rfl
 ·rw [if_neg h]
  by_cases h1:n=1
  ·subst h1;rfl
  ·rw [if_neg (by
    have:((n == 1)=false):=by simp [h1]
    rw [this]
    exact Bool.false_ne_true)]
   have:=BI c n.toNat #[]
   simpa using this
theorem Q5 {z:Str} {l:List Nat} (e:z.cps.toList=l) (h:∀ c∈l,isLetter c=true) (h1:1<=l.length) (h8:l.length<=8):isName (.str z)=true:=by
 have hl:z.length=l.length:=by rw [<- e];rfl
 simp only [isName,Bool.and_eq_true,decide_eq_true_eq]
 exact ⟨⟨by omega,by omega⟩,by rw [e];exact List.all_eq_true.mpr h⟩
theorem step_at {n:Int} (h0:0<=n) (h1:n < 6):∃ k:Int,eF [U.int 1,U.int 3,U.int 5,U.int 7,U.int 9,U.int 11] n=some (.int k)/\0<=k/\k<=11:=by
 have e:n=0\/n=1\/n=2\/n=3\/n=4\/n=5:=by omega
 rcases e with rfl | rfl | rfl | rfl | rfl | rfl <;> exact ⟨_,rfl,by omega,by omega⟩
theorem Nd (F:b9 K "_law_unlike" "_law_unlike" gX f fd) (hm:mg "_law_unlike"=some (.ref f)) (cU:mg "range"=none) (bM:Callee P w K mg base 1 "_law_take" mJ []):Callee P w K mg base 2 "_law_unlike" Cm []:=by
 refine bL F hm dS (r0 fun _ _ _ _ _ _ _ _=>rfl) (aH (bF 2 dS.nd bR)
 (aH (bF 3 dS.nd (aQ (uv 2) (aV bM (aA (uv 0) (aA aK aB)))))
 (aH (bF 4 dS.nd (aV bM (aA (uv 0) (aA aK aB))))
 (aH (bF 5 dS.nd (aQ (dI (own:=false) (aA aK (aA aK (aA aK (aA aK (aA aK (aA aK aB))))))) (aV bM (aA (uv 0) (aA aK aB)))))
 (aH (bF 6 dS.nd (bV (own:=false) aK (aV bM (aA (uv 0) (aA aK aB)))))
 (aH (bF 7 dS.nd (aV bM (aA (uv 0) (aA (uv 6) aB))))
 (aH (bF 8 dS.nd (jS (own:=false) (uv 3) (lD (lD (uv 6) aK) (uv 7))))
 (aJ (aZ (iR false ["k","back","filler","place","letters","first","step"] 1 [8,3,7,2,4,5] (nI cU (aA (uv 1) aB)) (bX (k:=1) 0 (by dsimp only [cJ];decide +kernel)) jQ (bV (own:=false) (bV (own:=false) (jS (own:=false) (uv 2) (uv 3)) (aQ (uv 4) (pG (bV (own:=false) (uv 5) (jS (own:=false) (uv 6) (uv 0))) aK))) (uv 1)))))))))))) ?_
 rintro us M Q ⟨r,d,x,m,rfl,hM,hd,hx,hx2,hm3,q⟩
 refine ⟨rfl,?_⟩
 refine aU fun V hV=>?_
 simp! only [bQ,hName,aE,aD]
 subst hV
 refine aU fun V hV=>?_
 simp! only [bQ,hName,aE,aD]
 refine ⟨r,d,x,26,rfl,hM,hd,hx,hx2,by decide,by decide,fun n1 d1 x1 a1 b1 c1 c2 c3=>?_⟩
 obtain ⟨cf,hcf,hlf⟩:=KS a1 b1
 simp! only [aE,aD]
 have habc:(Str.ofString "abcdefghijklmnopqrstuvwxyz").length<=sizeLine:=by decide +kernel
 refine ⟨habc,cf,hcf,?_⟩
 subst hV
 refine aU fun V hV=>?_
 simp! only [bQ,hName,aE,aD]
 refine ⟨r,d1,x1,26,rfl,aX,c1,c2,c3,by decide,by decide,fun n2 d2 x2 a2 b2 f1 f2 f3=>?_⟩
 rw [bU]
 subst hV
 refine aU fun V hV=>?_
 simp! only [bQ,hName,aE,aD]
 refine ⟨r,d2,x2,6,rfl,aX,f1,f2,f3,by decide,by decide,fun n3 d3 x3 a3 b3 g1 g2 g3=>?_⟩
 rw [bU]
 obtain ⟨sp,hsp,hs0,hs1⟩:=step_at a3 b3
 simp! only [hsp,aE,aD]
 subst hV
 refine aU fun V hV=>?_
 simp! only [bQ,hName,aE,aD]
 refine ⟨r,d3,x3,8,rfl,aX,g1,g2,g3,by decide,by decide,fun n4 d4 x4 a4 b4 k1 k2 k3=>?_⟩
 rw [bU]
 simp! only [aE,aD]
 subst hV
 refine aU fun V hV=>?_
 simp! only [bQ,hName,aE,aD]
 refine ⟨r,d4,x4,1 + n4,rfl,aX,k1,k2,k3,by omega,by omega,fun n5 d5 x5 a5 b5 l1 l2 l3=>?_⟩
 rw [bU]
 subst hV
 refine aU fun V hV=>?_
 simp! only [bQ,hName,aE,aD]
 have h1c:(⟨#[cf]⟩:Str).length=1:=rfl
 refine ⟨by omega,by omega,by rw [h1c];decide,by rw [h1c];omega,?_⟩
 subst hV
 simp! only [cE,aE,aD]
 generalize hMM:mup M r (.lst (cD d5 x5))=MM
 let ck:Nat->Nat:=fun k=>(eF qD.cps.toList ((n2 + sp * (k:Int)) % 26)).getD 0
 have hck:∀ k:Nat,eF qD.cps.toList ((n2 + sp * (k:Int)) % 26)=some (ck k)/\isLetter (ck k)=true:=fun k=>by
  obtain ⟨c,h1,h2⟩:=KS (Int.emod_nonneg (n2 + sp * (k:Int)) (show (26:Int)≠0 by decide)) (Int.emod_lt_of_pos _ (by decide))
  have e:ck k=c:=by show (eF qD.cps.toList ((n2 + sp * (k:Int)) % 26)).getD 0=c;rw [h1];rfl
  rw [e];exact ⟨h1,h2⟩
 let nk:Nat->Str:=fun k=>iZ ⟨#[cf]⟩ n5++⟨#[ck k]⟩++iZ ⟨#[cf]⟩ (1 + n4 - 1 - n5)
 have hnl:∀ k,(nk k).cps.toList=List.replicate n5.toNat cf++[ck k]++List.replicate (1 + n4 - 1 - n5).toNat cf:=fun k=>by
  show (iZ ⟨#[cf]⟩ n5++⟨#[ck k]⟩++iZ ⟨#[cf]⟩ (1 + n4 - 1 - n5)).cps.toList=_
  rw [rX,rX,tY,tY]
 have hnn:∀ k,isName (.str (nk k))=true:=fun k=>by
  refine Q5 (hnl k) (fun c hc=>?_) (by simp;omega) (by simp;omega)
  simp only [List.mem_append,List.mem_replicate,List.mem_singleton] at hc
  rcases hc with (⟨_,rfl⟩ | rfl) | ⟨_,rfl⟩
  ·exact hlf
  ·exact (hck k).2
  ·exact hlf
 have hrl:∀ n:Int,n<=8->(iZ ⟨#[cf]⟩ n).length<=8:=fun n h=>by
  have e:(iZ ⟨#[cf]⟩ n).length=(iZ ⟨#[cf]⟩ n).cps.toList.length:=rfl
  rw [e,tY,List.length_replicate];omega
 have hr1:=hrl n5 (by omega)
 have hr2:=hrl (1 + n4 - 1 - n5) (by omega)
 refine gJ (S:=⟨none,cA 0 m⟩) (M1:=MM) ((List.range m).map fun k=>.str (nk k)) (fun R r=>by simp! only [aE,aD];exact ⟨by omega,by omega,by simpa using r⟩) (by rw [List.length_map,List.length_range];show _=(cA 0 m).length;rw [iA]) (small (by show (cA 0 m).length<=_;rw [iA];omega)) (fun a e=>by cases e) ?_ ?_
 ·intro j x y hx hy M' hS R r'
  obtain ⟨rfl,hj⟩:=wU hx
  rw [List.getElem?_map,List.getElem?_range hj] at hy
  cases hy
  simp! only [hName,aE,aD]
  have e0:(0:Int) + (j:Int)=(j:Int):=by omega
  rw [e0]
  have hl2:(iZ ⟨#[cf]⟩ n5++⟨#[ck j]⟩:Str).length<=100:=by
   have e:(iZ ⟨#[cf]⟩ n5++⟨#[ck j]⟩:Str).length=(iZ ⟨#[cf]⟩ n5++⟨#[ck j]⟩:Str).cps.toList.length:=rfl
   rw [e,rX,tY];simp;omega
  have h1j:(⟨#[ck j]⟩:Str).length=1:=rfl
  refine ⟨by omega,by omega,by rw [h1c];decide,by rw [h1c];omega,mulL (by omega) (by omega),by decide,habc,ck j,(hck j).1,small (by rw [h1j];omega),small (by omega),r'⟩
 ·simp! only [aE,aD]
  rw [<- hMM]
  have e:(List.range m).map (fun k=>U.str (nk k))=((List.range m).map nk).map U.str:=by rw [List.map_map];rfl
  rw [e]
  exact aO (q ((List.range m).map nk) d5 x5 (by simp) (fun s hs=>by
   obtain ⟨k,_,rfl⟩:=List.mem_map.mp hs
   exact hnn k) l1 l2 l3)
def pJ (n:Nat):dA:=fun us M Q=>∃ (f:Addr) (d x:Int) (names:List Str) (k:Nat),us=[.ref f,.lst (names.map U.str),.int (k:Int),.int 0]/\M f=some (.lst (cD d x))/\0<=d/\0<=x/\x<=2147484647/\k < n/\k<=10/\1<=names.length/\names.length<=3/\(∀ s∈names,isName (.str s)=true)/\∀ (t:Tr) (d' x':Int),t.good->t.dep<=k + 1->t.size + 1<=2 ^ (k + 1)->0<=d'->0<=x'->x'<=2147484647->Q t.toU (mup M f (.lst (cD d' x')))
theorem Rm {n:Int} (h0:0<=n) (h1:n < 4):∃ o:Op,eF [U.str (Str.ofString "sum"),U.str (Str.ofString "less"),U.str (Str.ofString "by"),U.str (Str.ofString "sum")] n=some (.str o.word):=by
 have e:n=0\/n=1\/n=2\/n=3:=by omega
 rcases e with rfl | rfl | rfl | rfl
 ·exact ⟨.sum,rfl⟩
 ·exact ⟨.less,rfl⟩
 ·exact ⟨.by_,rfl⟩
 ·exact ⟨.sum,rfl⟩
theorem KP {a b:U} {n:Int} (h0:0<=n) (h1:n < 2):eF [a,b] n=some a\/eF [a,b] n=some b:=by
 have e:n=0\/n=1:=by omega
 rcases e with rfl | rfl
 ·exact .inl rfl
 ·exact .inr rfl
theorem Sa {n:Nat} (F:b9 K "_law_tree" "_law_tree" hU f fd) (hm:mg "_law_tree"=some (.ref f)) (bT:mg "len"=none) (bM:Callee P w K mg base 1 "_law_take" mJ []) (lE:Callee P w K mg base (n + 1) "_law_tree" (pJ n) []):Callee P w K mg base (n + 2) "_law_tree" (pJ (n + 1)) []:=by
 refine bL F hm mB (Vh fun _ _ _ _ _ _ _ _ _ _=>rfl) (aH (bF 4 mB.nd (aV bM (aA (uv 0) (aA aK aB))))
 (aH (bY (iJ.pt (nS (bW Dc (uv 3) aK) (lP (bW xC (uv 4) aK))))
 (aJ (aZ (aW (aA bR (aA (aQ (dI (own:=false) (aA (lD (uv 3) aK) (aA (aV bM (aA (uv 0) (aA (uv 3) aB))) aB))) (aV bM (aA (uv 0) (aA aK aB)))) aB)))))
 bH)
 (aH (bY (iJ.pt (jH (bW cM (uv 2) aK) (j8 (bW xC (uv 4) aK))))
 (aH (bF 5 mB.nd (aV bM (aA (uv 0) (aA aK aB))))
 (aH (bY (bW cM (uv 5) aK)
 (aJ (aZ (aW (aA bR (aA (aQ (dI (own:=false) (aA (aV bM (aA (uv 0) (aA aK aB))) (aA (aV bM (aA (uv 0) (aA (bV (own:=false) (Bi aK aK) aK) aB))) aB))) (aV bM (aA (uv 0) (aA aK aB)))) aB)))))
 bH)
 (aJ (aZ (aW (aA bR (aA (aQ (uv 1) (aV bM (aA (uv 0) (aA (cQ hX bT (aA (uv 1) aB)) aB)))) aB)))))))
 bH)
 (aH (bY (bW cM (uv 4) aK)
 (aJ (aZ (aW (aA bR (aA (aV lE (aA (uv 0) (aA (uv 1) (aA (lD (uv 2) aK) (aA (uv 3) aB))))) aB)))))
 bH)
 (aH (bF 6 mB.nd (aQ (dI (own:=false) (aA bR (aA bR (aA bR (aA bR aB))))) (lD (uv 4) aK)))
 (aJ (aZ (aW (aA (uv 6) (aA (aV lE (aA (uv 0) (aA (uv 1) (aA (lD (uv 2) aK) (aA (uv 3) aB))))) (aA (aV lE (aA (uv 0) (aA (uv 1) (aA (lD (uv 2) aK) (aA (uv 3) aB))))) aB))))))))))) ?_
 rintro us M Q ⟨r,d,x,names,k,rfl,hM,hd,hx,hx2,hk,hk10,hn1,hn3,hnm,q⟩
 refine ⟨rfl,?_⟩
 refine aU fun V hV=>?_
 simp! only [bQ,hName,aE,aD]
 refine ⟨r,d,x,10,rfl,hM,hd,hx,hx2,by decide,by decide,fun w d1 x1 a1 b1 c1 c2 c3=>?_⟩
 subst hV
 refine aU fun V hV=>?_
 refine cG fun A B hA hB=>?_
 simp! only [show decide ((0:Int) < 0)=false from rfl,aE,aD]
 subst hB
 simp only [b7]
 subst hV
 refine aU fun V hV=>?_
 refine cG fun A B hA hB=>?_
 have goA:A (mup M r (.lst (cD d1 x1))):=by
  subst hA
  refine aU fun V2 hV2=>?_
  simp! only [bQ,hName,aE,aD]
  refine ⟨r,d1,x1,3,rfl,aX,c1,c2,c3,by decide,by decide,fun l d2 x2 a2 b2 f1 f2 f3=>?_⟩
  rw [bU]
  subst hV2
  refine aU fun V2 hV2=>?_
  refine cG fun A B hA hB=>?_
  simp! only [aE,aD]
  refine g0 (fun _=>?_) (fun _=>?_)
  ·subst hA
   simp! only [cE,aE,aD]
   refine ⟨r,d2,x2,6,rfl,aX,f1,f2,f3,by decide,by decide,fun p d3 x3 a3 b3 g1 g2 g3=>?_⟩
   rw [bU]
   simp! only [aE,aD]
   refine ⟨⟨by decide,by decide,by decide⟩,r,d3,x3,1000000000000000001,rfl,aX,g1,g2,g3,by decide,by decide,fun p2 d4 x4 a4 b4 l1 l2 l3=>?_⟩
   rw [bU]
   simp! only [aE,aD]
   refine ⟨r,d4,x4,2,rfl,aX,l1,l2,l3,by decide,by decide,fun p3 d5 x5 a5 b5 m1 m2 m3=>?_⟩
   rw [bU]
   have hpw:2<=2 ^ (k + 1):=by rw [Nat.pow_succ];have:=Nat.one_le_two_pow (n:=k);omega
   rcases KP (a:=U.int p) (b:=U.int p2) a5 b5 with h | h
   ·simp! only [h,aE,aD]
    exact aO (q (.num p) d5 x5 ⟨a3,by omega⟩ (by simp [Tr.dep]) (by simp only [Tr.size];omega) m1 m2 m3)
   ·simp! only [h,aE,aD]
    exact aO (q (.num p2) d5 x5 ⟨a4,by omega⟩ (by simp [Tr.dep]) (by simp only [Tr.size];omega) m1 m2 m3)
  ·subst hB
   simp only [b7]
   subst hV2
   simp! only [cE,List.length_map,aE,aD]
   refine ⟨r,d2,x2,names.length,rfl,aX,f1,f2,f3,by omega,by omega,fun i d3 x3 a3 b3 g1 g2 g3=>?_⟩
   rw [bU]
   have hlt:i.toNat < names.length:=by omega
   have hat:eF (names.map U.str) i=some (.str names[i.toNat]):=by
    have:=eC (xs:=names.map U.str) (j:=i.toNat) (v:=.str names[i.toNat]) (by rw [List.getElem?_map,List.getElem?_eq_getElem hlt];rfl)
    rw [Int.toNat_of_nonneg a3] at this
    exact this
   have hpw:2<=2 ^ (k + 1):=by rw [Nat.pow_succ];have:=Nat.one_le_two_pow (n:=k);omega
   exact ⟨_,hat,aO (q (.name names[i.toNat]) d3 x3 (hnm _ (List.getElem_mem hlt)) (by simp [Tr.dep]) (by simp only [Tr.size];omega) g1 g2 g3)⟩
 simp! only [aE,aD]
 refine g0 (fun _=>goA) (fun h=>?_)
 refine g0 (fun _=>goA) (fun h5=>?_)
 have hk0:k≠0:=fun z=>h (by subst z;rfl)
 obtain ⟨k',rfl⟩:∃ k',k=k' + 1:=⟨k - 1,by omega⟩
 have ek:((k' + 1:Nat):Int) - 1=(k':Int):=by push_cast;omega
 have hw5:5<=w:=by
  have:¬ w < 5:=fun z=>h5 (by simpa using z)
  omega
 subst hB
 simp only [b7]
 subst hV
 refine aU fun V hV=>?_
 refine cG fun A B hA hB=>?_
 simp! only [aE,aD]
 refine g0 (fun _=>?_) (fun hne=>?_)
 ·subst hA
  simp! only [cE,ek,aE,aD]
  refine ⟨r,d1,x1,names,k',rfl,aX,c1,c2,c3,by omega,by omega,hn1,hn3,hnm,fun t d2 x2 ht hdp hsz f1 f2 f3=>?_⟩
  rw [bU]
  simp! only [aE,aD]
  exact aO (q (.turn t) d2 x2 ht (by simp only [Tr.dep];omega) (by simp only [Tr.size];rw [Nat.pow_succ];have:=Nat.one_le_two_pow (n:=k' + 1);omega) f1 f2 f3)
 ·subst hB
  simp only [b7]
  subst hV
  refine aU fun V hV=>?_
  have hw6:w≠5:=fun z=>hne (decide_eq_true z)
  obtain ⟨o,ho⟩:=Rm (n:=w - 6) (by omega) (by omega)
  simp! only [bQ,hName,ho,aE,aD]
  subst hV
  simp! only [cE,ek,aE,aD]
  refine ⟨r,d1,x1,names,k',rfl,aX,c1,c2,c3,by omega,by omega,hn1,hn3,hnm,fun t d2 x2 ht hdp hsz f1 f2 f3=>?_⟩
  rw [bU]
  simp! only [ek,aE,aD]
  refine ⟨r,d2,x2,names,k',rfl,aX,f1,f2,f3,by omega,by omega,hn1,hn3,hnm,fun t2 d3 x3 ht2 hdp2 hsz2 g1 g2 g3=>?_⟩
  rw [bU]
  simp! only [aE,aD]
  exact aO (q (.two o t t2) d3 x3 ⟨ht,ht2⟩ (by simp only [Tr.dep];omega) (by simp only [Tr.size];rw [Nat.pow_succ];omega) g1 g2 g3)
theorem Bu (F:b9 K "_law_tree" "_law_tree" hU f fd) (hm:mg "_law_tree"=some (.ref f)) (bT:mg "len"=none) (bM:Callee P w K mg base 1 "_law_take" mJ []):∀ n,Callee P w K mg base (n + 1) "_law_tree" (pJ n) []
 | 0=>by
  have no:∀ us M Q,¬ pJ 0 us M Q:=fun us M Q h=>by
   obtain ⟨_,_,_,_,_,_,_,_,_,_,h,_⟩:=h
   omega
  refine ⟨f,fd,["feed","names","deep","number"],[],[],⟨fun vs H Q E h=>?_,fun A outer s H args us vs Q E _ _ _ _ h=>?_⟩,hm,F.kp,F.binds (Vh fun _ _ _ _ _ _ _ _ _ _=>rfl),.nil,fun H M=>.nil⟩
  ·obtain ⟨us,M,Q',_,_,h,_⟩:=h;exact absurd h (no us M Q')
  ·obtain ⟨us,M,Q',_,_,h,_⟩:=h;exact absurd h (no us M Q')
 | n + 1=>Sa F hm bT bM (Bu F hm bT bM n)
def lJ:Nat->Tr
 | 0=>.name "b"
 | n + 1=>.turn (lJ n)
theorem Ai:∀ n,(lJ n).dep=n + 1
 | 0=>rfl
 | n + 1=>by simp only [lJ,Tr.dep,Ai n]
theorem xZ:∀ n,(lJ n).size=n + 1
 | 0=>rfl
 | n + 1=>by simp only [lJ,Tr.size,xZ n]
theorem xQ:∀ n,(lJ n).good
 | 0=>by show isName (.str (Str.ofString "b"))=true;decide +kernel
 | n + 1=>xQ n
def Gm:dA:=fun us M Q=>∃ n:Nat,us=[.int ((n + 1:Nat):Int)]/\n<=100/\Q (lJ n).toU M
theorem NY (F:b9 K "_law_chain" "_law_chain" iL f fd) (hm:mg "_law_chain"=some (.ref f)) (cU:mg "range"=none):Callee P w K mg base 1 "_law_chain" Gm []:=by
 refine bL F hm kS (g9 fun _ _ _ _ _ _ _=>rfl) (aH (bF 1 kS.nd (aW (aA bR (aA bR aB))))
 (aH (gK (nI cU (aA (lD (uv 0) aK) aB)) (bX (k:=1000) 2 kS.nd)
 (aJ (bF 1 kS.nd (aW (aA bR (aA (uv 1) aB))))))
 (aJ (aZ (uv 1))))) ?_
 rintro us M Q ⟨n,rfl,hn,q⟩
 refine ⟨rfl,?_⟩
 have en:((n + 1:Nat):Int) - 1=(n:Int):=by push_cast;omega
 refine aU fun V hV=>?_
 simp! only [bQ,hName,aE,aD]
 subst hV
 refine aU fun V hV=>?_
 refine gY (S:=⟨none,cA 0 n⟩) (M1:=M) (fun R r=>by simp! only [en,aE,aD];exact ⟨by omega,by omega,by simpa using r⟩)
  (fun i τ Mi=>∃ z2:Option U,τ=[some (.int ((n + 1:Nat):Int)),some (lJ i).toU,z2]/\Mi=M) ⟨none,rfl,rfl⟩ nk ?_ ?_
 ·rintro i x τ Mi e ⟨z2,rfl,rfl⟩
  simp! only [hName,bQ,aE,aD]
  first | exact ⟨_,rfl,rfl⟩ | exact ⟨_,rfl,trivial⟩ | exact ⟨_,rfl⟩
 ·rintro τ Mi ⟨z2,rfl,rfl⟩
  have hlen:(Src.mk none (cA 0 n)).xs.length=n:=iA 0 n
  rw [hlen]
  subst hV
  simp! only [cE,aE,aD]
  exact aO q
def Qz:dA:=fun us M Q=>∃ (f:Addr) (d x:Int) (k:Nat),us=[.ref f,.int 1,.int (k:Int)]/\M f=some (.lst (cD d x))/\0<=d/\0<=x/\x<=2147484647/\k<=9/\∀ (t:Tr) (d' x':Int),t.good->t.dep<=k + 1->t.size + 1<=2 ^ (k + 1)->0<=d'->0<=x'->x'<=2147484647->Q (.tup [t.toU]) (mup M f (.lst (cD d' x')))
theorem TF (F:b9 K "_law_web" "_law_web" kN f fd) (hm:mg "_law_web"=some (.ref f)) (cU:mg "range"=none) (bN:mg "tuple"=none) (bM:Callee P w K mg base 1 "_law_take" mJ []) (C9:Callee P w K mg base 2 "_law_unlike" Cm []) (lE:Callee P w K mg base 11 "_law_tree" (pJ 10) []):Callee P w K mg base 12 "_law_web" Qz []:=by
 refine bL F hm wY (Qa fun _ _ _ _ _ _ _ _ _=>rfl) (aH (bF 3 wY.nd (aV C9 (aA (uv 0) (aA (bV (own:=false) aK (aV bM (aA (uv 0) (aA aK aB)))) aB))))
 (aJ (aZ (WD RK bN (aA (iR false ["number","feed","names","deep"] 1 [0,3,2] (nI cU (aA (uv 1) aB)) (bX (k:=1) 0 (by dsimp only [cJ];decide +kernel)) jQ (aV lE (aA (uv 1) (aA (uv 2) (aA (uv 3) (aA (uv 0) aB)))))) aB))))) ?_
 rintro us M Q ⟨r,d,x,k,rfl,hM,hd,hx,hx2,hk,q⟩
 refine ⟨rfl,?_⟩
 refine aU fun V hV=>?_
 simp! only [bQ,hName,aE,aD]
 refine ⟨r,d,x,3,rfl,hM,hd,hx,hx2,by decide,by decide,fun n1 d1 x1 a1 b1 c1 c2 c3=>?_⟩
 simp! only [aE,aD]
 obtain ⟨m,hmm⟩:∃ m:Nat,1 + n1=(m:Int):=⟨(1 + n1).toNat,by omega⟩
 rw [hmm]
 refine ⟨r,d1,x1,m,rfl,aX,c1,c2,c3,by omega,fun names d2 x2 hl hnm f1 f2 f3=>?_⟩
 rw [bU]
 subst hV
 simp! only [cE,aE,aD]
 refine ⟨by decide,by decide,by decide,fun D hD=>⟨fun i ys M'=>(i=0/\ys=[]/\M'=mup (mup M r (.lst (cD d2 x2))) D (.lst []))\/(i=1/\∃ (t:Tr) (d' x':Int),ys=[t.toU]/\M'=mup (mup M r (.lst (cD d' x'))) D (.lst [t.toU])/\t.good/\t.dep<=k + 1/\t.size + 1<=2 ^ (k + 1)/\0<=d'/\0<=x'/\x'<=2147484647),.inl ⟨rfl,rfl,rfl⟩,?_,?_,?_⟩⟩
 ·rintro i ys M' (⟨rfl,rfl,rfl⟩ | ⟨rfl,t,d',x',rfl,rfl,_⟩)
  ·exact ⟨(fun a e=>by cases e),aX,by simp⟩
  ·exact ⟨(fun a e=>by cases e),aX,by simp⟩
 ·rintro i y ys M' hy (⟨rfl,rfl,rfl⟩ | ⟨rfl,t,d',x',rfl,rfl,_⟩)
  ·have hy':y=.int 0:=by
    have h:(cA 0 (Int.toNat 1))[0]?=some y:=hy
    cases h;rfl
   subst hy'
   have hDr:r≠D:=fun z=>by subst z;rw [aX] at hD;cases hD
   simp! only [hName,aE,aD]
   refine ⟨r,d2,x2,names,k,rfl,by rw [cB hDr,aX],f1,f2,f3,by omega,by omega,by omega,by omega,hnm,fun t d3 x3 ht hdp hsz g1 g2 g3=>?_⟩
   have e1:mup (mup (mup M r (.lst (cD d2 x2))) D (.lst [])) r (.lst (cD d3 x3)) D=some (.lst []):=by rw [cB (Ne.symm hDr),aX]
   first | refine ⟨e1,.inr ⟨rfl,t,d3,x3,rfl,?_,ht,hdp,hsz,g1,g2,g3⟩⟩ | refine ⟨e1,.inr ⟨t,d3,x3,rfl,?_,ht,hdp,hsz,g1,g2,g3⟩⟩ | refine ⟨e1,t,d3,x3,rfl,?_,ht,hdp,hsz,g1,g2,g3⟩
   funext z
   by_cases z1:z=D
   ·subst z1;rw [aX,aX]
   ·rw [cB z1,cB z1]
    by_cases z2:z=r
    ·subst z2;rw [aX,aX]
    ·rw [cB z2,cB z1,cB z2,cB z2]
  ·have h:(cA 0 (Int.toNat 1))[1]?=some y:=hy
   cases h
 ·rintro ys M' (⟨h,rfl,rfl⟩ | ⟨_,t,d',x',rfl,rfl,ht,hdp,hsz,g1,g2,g3⟩)
  ·cases h
  ·have hDr:r≠D:=fun z=>by subst z;rw [aX] at hD;cases hD
   have hMD:M D=none:=by rw [cB (Ne.symm hDr)] at hD;exact hD
   refine ⟨mup M r (.lst (cD d' x')),(Sub.refl _).mup (by rw [cB (Ne.symm hDr)];exact hMD),by rw [cB (Ne.symm hDr)];exact hMD,?_⟩
   simp! only [aE,aD]
   exact aO (q t d' x' ht hdp hsz g1 g2 g3)
end
end K86
namespace U2
open PySem L2
theorem Kr {elt:Expr} {gens:List Comprehension} {scope:Scope} {pos py:Pos} {y:Str} {line:Nat} {env:Env} (h2:env.scope.names.lookup y=some .cell) :
  swapsWith (.ListComp elt gens scope pos) (some (.Name y py)) line env=pure false:=by
 have e2:(env.kindOf y == some .local)=false:=by unfold Env.kindOf;rw [h2];rfl
 show pure (env.blockKind == .function && env.kindOf y == some .local && py.line == pos.line && !(scope.names.any fun (n,k)=>n == y && (k == .local || k == .cell)))=pure false
 rw [e2]
 simp
theorem QX {D:Dat} {te:UE} (i:Nat) {x:Str} {pos' pos p2:Pos} {elt:Expr} {gens:List Comprehension} {scope:Scope} (hN:D.N.Nodup) (he:bG D (.ListComp elt gens scope p2) te) (hi:D.N[i]?=some x:=by rfl) (hx:Loc D.sc x:=by first | exact Or.inl rfl | exact Or.inr rfl) (hc:D.sc.names.lookup x=some .cell:=by rfl)
  (hf:D.fn=true\/D.sc.names.lookup x=some .local:=by first | exact .inl rfl | exact .inr rfl):pM D (.Assign [.Name x pos'] (.ListComp elt gens scope p2) pos) (bQ te (hName i)):=by
 obtain ⟨_,p,s⟩:=he
 exact ⟨_,fun X h=>CK (i:=i) (by rw [h.N];exact hN) (by rw [h.N];exact hi) (by rw [h.sc];exact hx) (p X h) (Kr (by rw [h.sc];exact hc)) (by rcases hf with z | z;exact .inl (h.fn z x);exact .inr (by rw [h.sc];exact z)),uE s (mQ i)⟩
end U2
namespace K86
open PySem L2 U2
section
variable {P:Program} {w:World} {K:PySem.W.Frag} {mg:Str->Option Value} {base:Heap} {f d d2 fl:Addr} {fd:FuncData}
theorem Sl {α β:Type} (g:α->β) (l:List α) (a b:Option Int):eA (l.map g) a b=(eA l a b).map g:=by
 unfold eA
 rw [List.length_map,List.map_take,List.map_drop]
theorem Ut {α:Type} (l:List α) {j:Nat} (h:j<=l.length):eA l (some (j:Int)) none=l.drop j:=by
 unfold eA
 have e:HT.bS l.length 0 (some (j:Int))=j:=by
  simp only [HT.bS];rw [if_neg (by omega)];omega
 have e2:HT.bS l.length l.length none=l.length:=rfl
 rw [e,e2,List.take_of_length_le (by rw [List.length_drop];omega)]
theorem vK {α:Type} {g:α->U} {gd:α->PyData}:∀ l:List α,(∀ x∈l,toD (g x)=some (gd x))->gA (l.map g)=some (l.map gd)
 | [],_=>rfl
 | x :: l,h=>by
  simp only [List.map_cons,gA]
  rw [h x List.mem_cons_self,vK l fun y hy=>h y (List.mem_cons_of_mem _ hy)]
theorem yP {α:Type} {gd:α->PyData}:∀ l:List α,(∀ x∈l,(gd x).canLay0=true)->PyData.canLayAll0 (l.map gd)=true
 | [],_=>rfl
 | x :: l,h=>by
  simp only [List.map_cons,PyData.canLayAll0]
  rw [h x List.mem_cons_self,yP l fun y hy=>h y (List.mem_cons_of_mem _ hy)];rfl
def xF (p:List Nat):PyData:=.tuple (p.map fun (n:Nat)=>.int (n:Int))
theorem MZ (p:List Nat):toD (bI p)=some (xF p):=by
 simp only [bI,toD]
 rw [vK (gd:=fun n:Nat=>PyData.int (n:Int)) p fun c _=>rfl];rfl
theorem LS (p:List Nat):(xF p).canLay0=true:=by
 simp only [xF,PyData.canLay0]
 exact yP p fun c _=>rfl
def pairF:List Tr->List Tr
 | a :: b :: r=>.two .less a b :: pairF r
 | l=>l
def pk (ts:List Tr) (k:Nat):Tr:=.two .less (ts[2 * k]?.getD (.num 0)) (ts[2 * k + 1]?.getD (.num 0))
theorem GN:∀ ts:List Tr,(List.range (ts.length / 2)).map (pk ts)++ts.drop (ts.length / 2 * 2)=pairF ts
 | []=>by simp [pairF]
 | [a]=>by simp [pairF]
 | a :: b :: r=>by
  have e:(a :: b :: r).length / 2=r.length / 2 + 1:=by simp only [List.length_cons];omega
  rw [e,List.range_succ_eq_map,List.map_cons,List.map_map,List.cons_append]
  have e2:(pk (a :: b :: r)) ∘ Nat.succ=pk r:=by
   funext k
   simp only [Function.comp,pk,show 2 * Nat.succ k=2 * k + 1 + 1 by omega,List.getElem?_cons_succ]
  rw [e2,show (r.length / 2 + 1) * 2=r.length / 2 * 2 + 1 + 1 by omega,List.drop_succ_cons,List.drop_succ_cons,GN r]
  rfl
theorem C5:∀ ts:List Tr,((pairF ts).map fun t=>t.size + 1).sum=(ts.map fun t=>t.size + 1).sum
 | []=>rfl
 | [a]=>rfl
 | a :: b :: r=>by
  simp only [pairF,List.map_cons,List.sum_cons,C5 r,Tr.size];omega
theorem CL:∀ ts:List Tr,(pairF ts).length=(ts.length + 1) / 2
 | []=>by simp [pairF]
 | [a]=>by simp [pairF]
 | a :: b :: r=>by simp only [pairF,List.length_cons,CL r];omega
theorem Af:∀ ts:List Tr,(∀ t∈ts,t.good)->∀ t∈pairF ts,t.good
 | [],h,t,ht=>h t ht
 | [a],h,t,ht=>h t ht
 | a :: b :: r,h,t,ht=>by
  rcases List.mem_cons.mp ht with rfl | ht
  ·exact ⟨h a (by simp),h b (by simp)⟩
  ·exact Af r (fun t ht=>h t (by simp [ht])) t ht
theorem CM {n:Nat}:∀ ts:List Tr,(∀ t∈ts,t.dep<=n)->∀ t∈pairF ts,t.dep<=n + 1
 | [],h,t,ht=>Nat.le_succ_of_le (h t ht)
 | [a],h,t,ht=>Nat.le_succ_of_le (h t ht)
 | a :: b :: r,h,t,ht=>by
  rcases List.mem_cons.mp ht with rfl | ht
  ·have:=h a (by simp)
   have:=h b (by simp)
   simp only [Tr.dep];omega
  ·exact CM r (fun t ht=>h t (by simp [ht])) t ht
def Bq:Tr:=.turn (.name "a")
theorem K9:Bq.good:=by show isName (.str (Str.ofString "a"))=true;decide +kernel
def QD:dA:=fun us M Q=>us=[.int 66]/\∀ t:Tr,t.good->t.dep<=20->t.size=197->Q t.toU M
def wD (ts:List Tr):Prop:=(∀ t∈ts,t.good)/\1<=ts.length/\ts.length<=66/\(ts.map fun t=>t.size + 1).sum=198/\∃ r,(ts.length - 1) * 2 ^ r<=65/\r<=7/\∀ t∈ts,t.dep<=2 + r
theorem NV {ts:List Tr} (h:wD ts) (h1:1 < ts.length):wD (pairF ts)/\(pairF ts).length < ts.length:=by
 obtain ⟨g,l1,l2,s,r,hr,hr7,hd⟩:=h
 have hl:=CL ts
 have h6:r<=6:=by
  by_cases h:r=7
  ·subst h
   have:1 * 2 ^ 7<=(ts.length - 1) * 2 ^ 7:=Nat.mul_le_mul_right _ (by omega)
   omega
  ·omega
 refine ⟨⟨Af ts g,by omega,by omega,by rw [C5,s],r + 1,?_,by omega,CM ts hd⟩,by omega⟩
 have:((pairF ts).length - 1) * 2<=ts.length - 1:=by omega
 have:=Nat.mul_le_mul_right (2 ^ r) this
 rw [Nat.pow_succ,Nat.mul_comm (2 ^ r) 2,<- Nat.mul_assoc]
 omega
theorem KO:wD (List.replicate 66 Bq):=by
 refine ⟨fun t ht=>?_,by simp,by simp,by decide +kernel,0,by simp,by omega,fun t ht=>?_⟩
 ·rw [(List.mem_replicate.mp ht).2];exact K9
 ·rw [(List.mem_replicate.mp ht).2];simp [Bq,Tr.dep]
local macro_rules | `(tactic| simp! only [$xs,*] $[$l]?) => `(tactic| simp only [$xs,*, Bool.false_eq_true, Bool.not_false, Bool.not_true, List.append_nil, List.cons_append, List.getElem?_cons_succ, List.getElem?_cons_zero, List.length_cons, List.length_nil, List.map_cons, List.map_nil, List.nil_append, List.replicate, List.set_cons_succ, List.set_cons_zero, Nat.add_sub_cancel, Nat.reduceAdd, Nat.reduceLeDiff, Nat.reduceSub, Nat.sub_self, Option.getD_some, Option.some.injEq, and_true, CT, Cw, at2, A5, qQ, A1, qO, mH, mD, mU, rM, qF, qN, j1, zT, Ac, Ae, CG, dR, decide_false, decide_true, pU, pH, exists_eq_left', if_false, if_true, sV, gD, cX, cW, dG, cY, dF, cR, eP, eV, fP, eS, fM, dZ, eX, eY, fU, eQ, fN, d9, fY, fS, gP, fR, gQ, eU, e8, eZ, fX, eW, fW, dY, fV, fT, gR, fQ, gO, e7, d7, d8, eT, eD, eR, dQ, items, gC, iU, oJ, iQ, o8, tD, kB, bU, aX, reduceCtorEq, eL, LR, true_and, mW, lZ, rR, fD, uW, rV, uC, pO, nB, mO, j4, kC, nF, tJ, u7, uI, nX, xI, sT, pD, m4, oQ, oB, kG, o6, rE, tB, vO, mR, jO, qX, rH, m8, fC, xK, v7, m7, vS, nE, qY, rD, lB, rL, oX, wJ, iX, vY, m9, lC, kY, lF, j3, kZ, kX] $[$l]?)
theorem Ul (F:b9 K "_law_row" "_law_row" kK f fd) (hm:mg "_law_row"=some (.ref f)) (cU:mg "range"=none) (bT:mg "len"=none):Callee P w K mg base 1 "_law_row" QD []:=by
 refine bL F hm qA (g9 fun _ _ _ _ _ _ _=>rfl) (aH (QX 1 qA.nd (iR false ["k"] 1 [] (nI cU (aA (uv 0) aB)) (bX (k:=1) 0 (by dsimp only [cJ];decide +kernel)) jQ (aW (aA bR (aA (aW (aA bR (aA bR aB))) aB)))))
 (aH (CS (bW Dc (cQ hX bT (aA (uv 1) aB)) aK)
 (aJ (bF 1 qA.nd (bV (own:=false) (iR false ["k","trees"] 1 [1] (nI cU (aA (tT (cQ hX bT (aA (uv 1) aB)) aK) aB)) (bX (k:=1) 0 (by dsimp only [cJ];decide +kernel)) jQ (aW (aA bR (aA (aQ (uv 1) (jS (own:=false) aK (uv 0))) (aA (aQ (uv 1) (bV (own:=false) (jS (own:=false) aK (uv 0)) aK)) aB))))) (gZ (own:=false) (uv 1) (fH (jS (own:=false) (tT (cQ hX bT (aA (uv 1) aB)) aK) aK)) fL)))))
 (aJ (aZ (aQ (uv 1) aK))))) ?_
 rintro us M Q ⟨rfl,q⟩
 refine ⟨rfl,?_⟩
 refine aU fun V hV=>?_
 simp only [bQ]
 refine gJ (S:=⟨none,cA 0 66⟩) (M1:=M) ((List.replicate 66 Bq).map Tr.toU) (fun R r=>by simp! only [aE,aD];exact ⟨by omega,by omega,r⟩) (by rw [List.length_map,List.length_replicate];show _=(cA 0 66).length;rw [iA]) (by show (cA 0 66).length<=_;rw [iA];decide) (fun a e=>by cases e) ?_ ?_
 ·intro i x y hx hy M' hS R r'
  rw [List.map_replicate,List.getElem?_replicate] at hy
  split at hy
  ·cases hy
   simp! only [hName,aE,aD]
   exact r'
  ·cases hy
 simp! only [hName,aE,aD]
 subst hV
 refine aU fun V hV=>?_
 refine Di (fun τ Mi=>∃ ts:List Tr,τ=[some (.int 66),some (.lst (ts.map Tr.toU))]/\Mi=M/\wD ts) (fun τ _=>match τ with | [_,some (.lst l)]=>l.length | _=>0) ⟨List.replicate 66 Bq,rfl,rfl,KO⟩ ?_
 rintro τ Mi ⟨ts,rfl,rfl,inv⟩
 simp! only [List.length_map,aE,aD]
 refine g0 (fun h=>?_) (fun h=>?_)
 ·have h1:1 < ts.length:=by have:=of_decide_eq_true h;omega
  obtain ⟨n1,n2⟩:=NV inv h1
  have hl:=inv.2.2.1
  have ed:((ts.length:Int) / 2)=((ts.length / 2:Nat):Int):=by omega
  have em:(((ts.length / 2:Nat):Int) * 2)=((ts.length / 2 * 2:Nat):Int):=by omega
  simp! only [bQ,hName,aE,aD]
  refine gJ (S:=⟨none,cA 0 (ts.length / 2)⟩) (M1:=Mi) (((List.range (ts.length / 2)).map (pk ts)).map Tr.toU) (fun R r=>by simp! only [List.length_map,ed,aE,aD];exact ⟨⟨by decide,by decide⟩,by omega,by omega,by rw [Int.toNat_natCast];exact r⟩) (by rw [List.length_map,List.length_map,List.length_range];show _=(cA 0 _).length;rw [iA]) (small (by show (cA 0 _).length<=_;rw [iA];omega)) (fun a e=>by cases e) ?_ ?_
  ·intro i x y hx hy M' hS R r'
   obtain ⟨rfl,hi⟩:=wU hx
   rw [List.getElem?_map,List.getElem?_map,List.getElem?_range hi] at hy
   cases hy
   have hlt:2 * i + 1 < ts.length:=by omega
   have a0:eF (ts.map Tr.toU) (2 * (0 + (i:Int)))=some (ts[2 * i]?.getD (.num 0)).toU:=by
    have:=eC (xs:=ts.map Tr.toU) (j:=2 * i) (v:=(ts[2 * i]?.getD (.num 0)).toU) (by rw [List.getElem?_map,List.getElem?_eq_getElem (by omega)];rfl)
    rw [<- this];congr 1;omega
   have a1:eF (ts.map Tr.toU) (2 * (0 + (i:Int)) + 1)=some (ts[2 * i + 1]?.getD (.num 0)).toU:=by
    have:=eC (xs:=ts.map Tr.toU) (j:=2 * i + 1) (v:=(ts[2 * i + 1]?.getD (.num 0)).toU) (by rw [List.getElem?_map,List.getElem?_eq_getElem (by omega)];rfl)
    rw [<- this];congr 1;omega
   simp! only [hName,aE,aD]
   refine ⟨mulL (by decide) (by decide),_,a0,mulL (by decide) (by decide),_,a1,?_⟩
   exact r'
  ·simp! only [Sl,List.length_map,ed,em,Ut ts (show ts.length / 2 * 2<=ts.length by omega),aE,aD]
   refine ⟨⟨by decide,by decide⟩,mulR (by decide) (by decide),small (by simp only [List.length_map,List.length_range,List.length_drop];omega),?_⟩
   rw [<- List.map_append,GN]
   exact ⟨⟨pairF ts,rfl,n1⟩,by simp only [List.length_map];exact n2⟩
 ·have h1:ts.length<=1:=by
   have:¬ (1 < (ts.length:Int)):=fun z=>h (decide_eq_true z)
   omega
  show V _ _
  subst hV
  obtain ⟨g,l1,l2,s,r,hr,hr7,hd⟩:=inv
  match ts,h1,l1,g,s,hd with
  | [t],_,_,g,s,hd =>
   simp! only [cE,aE,aD]
   refine aO (q t (g t (by simp)) ?_ ?_)
   ·have:=hd t (by simp);omega
   ·simp only [List.map_cons,List.map_nil,List.sum_cons,List.sum_nil] at s;omega
def GH:dA:=fun us M Q=>∃ (f:Addr) (d x:Int),us=[.ref f]/\M f=some (.lst (cD d x))/\0<=d/\0<=x/\x<=2147484647/\∀ (t:Tr) (d' x':Int),t.good->t.dep<=45->t.size<=900->Q t.toU (mup M f (.lst (cD d' x')))
theorem Pj (F:b9 K "_law_great" "_law_great" iP f fd) (hm:mg "_law_great"=some (.ref f)) (bM:Callee P w K mg base 1 "_law_take" mJ []) (LV:Callee P w K mg base 1 "_law_row" QD []) (FG:Callee P w K mg base 1 "_law_chain" Gm []):Callee P w K mg base 2 "_law_great" GH []:=by
 refine bL F hm tI (g9 fun _ _ _ _ _ _ _=>rfl) (aH (bF 1 tI.nd (aV bM (aA (uv 0) (aA aK aB))))
 (aH (bY (bW xC (uv 1) aK)
 (aJ (aZ (aW (aA bR (aA (aV LV (aA aK aB)) (aA (aQ (dI (own:=false) (aA (aW (aA bR (aA bR aB))) (aA (aW (aA bR (aA (aW (aA bR (aA bR aB))) aB))) aB))) (uv 1)) aB))))))
 bH)
 (aJ (aZ (aW (aA bR (aA (aW (aA bR (aA aK aB))) (aA (aW (aA bR (aA (aV FG (aA (bV (own:=false) aK (uv 1)) aB)) (aA (aW (aA bR (aA aK aB))) aB)))) aB)))))))) ?_
 rintro us M Q ⟨r,d,x,rfl,hM,hd,hx,hx2,q⟩
 refine ⟨rfl,?_⟩
 have gx:(Tr.name (Str.ofString "x")).good:=by show isName (.str (Str.ofString "x"))=true;decide +kernel
 refine aU fun V hV=>?_
 simp! only [bQ,hName,aE,aD]
 refine ⟨r,d,x,4,rfl,hM,hd,hx,hx2,by decide,by decide,fun n1 d1 x1 a1 b1 c1 c2 c3=>?_⟩
 subst hV
 refine aU fun V hV=>?_
 refine cG fun A B hA hB=>?_
 simp! only [aE,aD]
 refine g0 (fun h=>?_) (fun h=>?_)
 ·have h2:n1 < 2:=of_decide_eq_true h
  subst hA
  simp! only [cE,aE,aD]
  refine ⟨rfl,fun t gt dt st=>?_⟩
  rcases KP (a:=(Tr.name (Str.ofString "x")).toU) (b:=(Tr.turn (.name (Str.ofString "x"))).toU) a1 h2 with h | h
  ·refine ⟨_,h,?_⟩
   exact aO (q (.two .less t (.name (Str.ofString "x"))) d1 x1 ⟨gt,gx⟩ (by simp only [Tr.dep];omega) (by simp only [Tr.size];omega))
  ·refine ⟨_,h,?_⟩
   exact aO (q (.two .less t (.turn (.name (Str.ofString "x")))) d1 x1 ⟨gt,gx⟩ (by simp only [Tr.dep];omega) (by simp only [Tr.size];omega))
 ·have h2:2<=n1:=by
   have:¬ n1 < 2:=fun z=>h (decide_eq_true z)
   omega
  subst hB
  simp only [b7]
  subst hV
  simp! only [cE,aE,aD]
  obtain ⟨n,hn⟩:∃ n:Nat,35 + n1=((n + 1:Nat):Int):=⟨(34 + n1).toNat,by omega⟩
  rw [hn]
  refine ⟨n,rfl,by omega,?_⟩
  have:=Ai n
  have:=xZ n
  exact aO (q (.two .less (.num 7) (.two .less (lJ n) (.num 1))) d1 x1 ⟨⟨by decide,by decide⟩,xQ n,by decide,by decide⟩ (by simp only [Tr.dep];omega) (by simp only [Tr.size];omega))
theorem ne_self {u:U} {d:PyData} {M:aI} {Q:UK} (hn:zO u u=none) (h:q9 M u=some d) (hl:d.canLay0=true) (hd:d.depth<=64) (q:Q (.bl false) M):jX true u u M Q:=by
 unfold jX
 rw [hn]
 refine ⟨d,d,h,h,hl,hl,by omega,?_⟩
 rw [PySem.SeqAt.eqv_refl d hl]
 exact q
def AQ:dA:=fun us M Q=>∃ (t a:Tr) (p:List Nat),us=[t.toU,bI p]/\t.at p=some a/\Q a.toU M
theorem Ds (F:b9 K "shape_at" "shape_at" jI f fd) (hm:mg "shape_at"=some (.ref f)) (qB:Callee P w K mg base 1 "parts_of" lY []):Callee P w K mg base 2 "shape_at" AQ []:=by
 refine bL F hm mF (r0 fun _ _ _ _ _ _ _ _=>rfl) (aH (bF 2 mF.nd (uv 0))
 (aH (gK (fB (uv 1)) (bX (k:=1000) 3 mF.nd)
 (aJ (bF 2 mF.nd (aQ (aV qB (aA (uv 2) aB)) (uv 3)))))
 (aJ (aZ (uv 2))))) ?_
 rintro us M Q ⟨t,a,p,rfl,ht,q⟩
 refine ⟨rfl,?_⟩
 have hst:=tU ht
 refine aU fun V hV=>?_
 simp! only [bQ,hName,aE,aD]
 subst hV
 refine aU fun V hV=>?_
 refine gY (S:=⟨none,p.map fun (n:Nat)=>U.int (n:Int)⟩) (M1:=M) (fun R r=>by simp! only [bI,aE,aD];exact r)
  (fun i τ Mi=>∃ (b:Tr) (z2:Option U),t.at (p.take i)=some b/\τ=[some t.toU,some (bI p),some b.toU,z2]/\Mi=M) ⟨t,none,by rw [List.take_zero,cH],rfl,rfl⟩ nk ?_ ?_
 ·rintro i u τ Mi e ⟨b,z2,hb,rfl,rfl⟩
  have e':(p.map fun (n:Nat)=>U.int (n:Int))[i]?=some u:=e
  rw [List.getElem?_map] at e'
  cases hk:p[i]? with
  | none=>rw [hk] at e';cases e'
  | some k =>
   rw [hk] at e'
   cases e'
   have hi:=(List.getElem?_eq_some_iff.mp hk).1
   obtain ⟨b',c,hb',hc,hbc⟩:=hst i hi
   rw [hb] at hb';cases hb'
   rw [hk] at hbc
   obtain ⟨z,hz,hsg,hl2⟩:=vH hbc
   have hat:eF (b.parts.map Tr.toU) (k:Int)=some c.toU:=eC (by rw [List.getElem?_map];rw [show b.parts[k]?=some c from hbc];rfl)
   simp! only [hName,bQ,aE,aD]
   refine ⟨z,b.parts.map Tr.toU,true,by rw [hz],hsg,by rw [List.length_map];omega,?_⟩
   simp! only [hat,aE,aD]
   exact ⟨c,_,hc,rfl⟩
 ·rintro τ Mi ⟨b,z2,hb,rfl,rfl⟩
  have hlen:(Src.mk none (p.map fun (n:Nat)=>U.int (n:Int))).xs.length=p.length:=by show (p.map _).length=_;rw [List.length_map]
  rw [hlen,List.take_length,ht] at hb
  cases hb
  subst hV
  simp! only [cE,aE,aD]
  exact aO q
theorem IZ (F:b9 K "tree_at" "tree_at" kM f fd) (hm:mg "tree_at"=some (.ref f)) (Jo:Callee P w K mg base 2 "shape_at" AQ []):Callee P w K mg base 3 "tree_at" AQ []:=by
 refine bL F hm Iw (r0 fun _ _ _ _ _ _ _ _=>rfl) (aJ (aZ (aV Jo (aA (uv 0) (aA (uv 1) aB))))) ?_
 rintro us M Q ⟨t,a,p,rfl,ht,q⟩
 refine ⟨rfl,?_⟩
 simp! only [cE,aE,aD]
 exact ⟨t,a,p,rfl,ht,aO q⟩
end
end K86
namespace U2
open PySem PySem.Spec PyProof.Rows L2
def Iy (f:Addr) (ws:List Str) (neg:Bool):dU:=fun x y M Q=>y=.ref f/\gU x=true/\Q (.bl (if neg then !(ws.map U.str).any (fun u=>nP u x) else (ws.map U.str).any (fun u=>nP u x))) M
theorem tK:∀ ws:List Str,(ws.map U.str).all gU=true
 | []=>rfl
 | w :: ws=>by rw [List.map_cons,List.all_cons,tK ws];rfl
theorem RM {K:PySem.W.Frag} {neg:Bool} {f:Addr} {ws:List Str} (hk:KT K f (ws.map V.str)):dO K (Qs K neg) (Iy f ws neg):=fun x y u w H M Q' rm ru rw h Q c=>by
 obtain ⟨rfl,fu,q⟩:=h
 cases rw.ref
 have rs:=Bh (K:=K) (H:=H) (M:=M) ws
 refine ⟨f,_,rfl,.inr (.inr hk),vT ru fu,sL rs (tK ws),?_⟩
 rw [yV ru fu rs (tK ws)]
 exact c.here rm cL q
theorem OA {D:Dat} {f:Addr} {ws:List Str} (hk:KT D.K f (ws.map V.str)):lG D .NotIn (Iy f ws true):=⟨⟨_,fun X h=>h.K ▸ sH,RM hk⟩⟩
def keyed:List (U × U)->Option (List (Key × U))
 | []=>some []
 | (x,y) :: r=>match yO x,keyed r with
  | some k,some ks=>some ((k,y) :: ks)
  | _,_=>none
end U2
namespace L2
open PySem PySem.Spec PyProof.Rows
section
variable {M:Model} {A:Around} {E:Value->Shared->Prop} {s:Shared} {base:Heap} {env:Env} {outer:List Env} {L e:Addr} {oe:Obj} {vs:Array Value}
def WV (e:Addr) (l:List Env) (h h':Heap):Prop:=∀ b o,h.get? b=some o->b≠e->(b ∉ lI l->h'.get? b=some o)/\∃ sl,h'.get? b=some { o with slots:=sl }
theorem F6 {head:Value} {hadNext:Bool} {Q:Unit->Shared->Prop} (hfr:A.frames=some (env :: outer)) (hl:s.heap.FunFrames base (env :: outer)) (hf:env.frame=some L)
  (he:s.heap.get? e=some oe) (hd:oe.data=.fields vs) (hsz:1 < vs.size)
  (h:∀ h' T oT ts,WV e (env :: outer) s.heap h'->h'.get? e=some (oe.mapFields (·.setIfInBounds 1 (.ref T)))->s.heap.objs.size<=T->h'.get? T=some oT->oT.data=.fields ts->ts[3]?=some .none->Q () { s with heap:=h' }) :
  wpAny M A (do let a <- frameOf env;let pl <- entryPlaceOf L hadNext;let b <- EntryCells.newEntry head a .none (rawInt L) .none pl;setField (.ref e) 1 b) (fun _ s'=>wpAny M A (setFlight (.ref e) none) Q E s') E s:=by
 have hene:e ∉ (env :: outer).filterMap (·.frame):=fun hm=>by
  obtain ⟨_,o,ho,hnf⟩:=hl.mem hm
  rw [he] at ho;injection ho with ho;subst ho;exact hnf vs hd
 refine wpAny_bind (wpAny_frameOf_fun hfr hl hf fun h₁ hs₁=>?_)
 refine wpAny_bind (wpAny_entryPlaceOf fun pl hpl=>?_)
 unfold EntryCells.newEntry newFields
 refine wpAny_bind (wpAny_newObj_type ?_ (hpl.sizeOk5 _ _ _ _ _))
 have he₁:h₁.get? e=some oe:=(hs₁.2.1 e hene).trans he
 have he₂:=Heap.get?_push_of_some (h:=h₁) { cls:=.type "traceback",dict:=none,data:=.fields ([head,.ref L,.none,rawInt L,.none]++(if pl.isEmpty then List.replicate 6 Value.none else pl)).toArray } he₁
 refine wpAny_setField he₂ hd hsz ?_
 have hTe:h₁.objs.size≠e:=Nat.ne_of_gt (Heap.lt_size he₁)
 have hd₃:=Obj.data_mapFields hd (·.setIfInBounds 1 (Value.ref h₁.objs.size))
 have he₃:=Heap.get?_update_self (Obj.mapFields (·.setIfInBounds 1 (Value.ref h₁.objs.size))) he₂ (Obj.isFreed_of_fields hd₃)
 have hT₃:=(Heap.get?_update_other (h₁.push { cls:=.type "traceback",dict:=none,data:=.fields ([head,.ref L,.none,rawInt L,.none]++(if pl.isEmpty then List.replicate 6 Value.none else pl)).toArray })
  (Obj.mapFields (·.setIfInBounds 1 (Value.ref h₁.objs.size))) (Ne.symm hTe)).trans (Heap.get?_push_size h₁ rfl)
 unfold setFlight
 refine wpAny_bind (wpAny_field he₃ hd₃ (x:=.ref h₁.objs.size) (by simp [hsz]) ?_)
 rw [if_pos (show (Value.ref h₁.objs.size != Value.none)=true from by simp)]
 refine wpAny_setField hT₃ rfl (by simp only [List.size_toArray,List.length_append,List.length_cons,List.length_nil] <;> omega) ?_
 have keep:∀ b o,b≠e->h₁.get? b=some o ->
   (((h₁.push { cls:=.type "traceback",dict:=none,data:=.fields ([head,.ref L,.none,rawInt L,.none]++(if pl.isEmpty then List.replicate 6 Value.none else pl)).toArray }).update e (Obj.mapFields (·.setIfInBounds 1 (Value.ref h₁.objs.size)))).update h₁.objs.size
    (Obj.mapFields (·.setIfInBounds 3 ((none:Option Addr).elim Value.none fun f=>rawInt f)))).get? b=some o:=fun b o hbe hb=>by
  have hbT:h₁.objs.size≠b:=Nat.ne_of_gt (Heap.lt_size hb)
  rw [Heap.get?_update_other _ _ hbT,Heap.get?_update_other _ _ (Ne.symm hbe)]
  exact Heap.get?_push_of_some _ hb
 refine h _ h₁.objs.size _ _ (fun b o hb hbe=>⟨fun hnf=>keep b o hbe ((hs₁.2.1 b hnf).trans hb),?_⟩) ?_ (by rw [hs₁.1];exact Nat.le_refl _) (Heap.get?_update_self _ hT₃ (Obj.isFreed_of_fields (Obj.data_mapFields rfl _))) (Obj.data_mapFields rfl _) ?_
 ·obtain ⟨sl,hs⟩:=hs₁.2.2 b o hb
  exact ⟨sl,keep b _ hbe hs⟩
 ·rw [Heap.get?_update_other _ _ hTe];exact he₃
 ·first | (simp;done) | (rcases hpl with rfl | ⟨_,_,_,_,_,_,_,rfl⟩ <;> simp)
def Wk (h:Heap) (e:Addr) (vs:Array Value) (T:Option Addr):Prop:=match T with
 | none=>vs[1]?=some .none
 | some T=>vs[1]?=some (.ref T)/\T≠e/\∃ oT ts,h.get? T=some oT/\oT.data=.fields ts/\ts[3]?=some .none
theorem O1 {T:Option Addr} {Q:Unit->Shared->Prop} (hfr:A.frames=some (env :: outer)) (hl:s.heap.FunFrames base (env :: outer)) (hf:env.frame=some L)
  (he:s.heap.get? e=some oe) (hd:oe.data=.fields vs) (ht:Wk s.heap e vs T)
  (h:∀ h' T' oT ts,(∀ b o,s.heap.get? b=some o->b≠e->T≠some b->(b ∉ lI (env :: outer)->h'.get? b=some o)/\∃ sl,h'.get? b=some { o with slots:=sl })->h'.get? e=some (oe.mapFields (·.setIfInBounds 1 (.ref T')))->s.heap.objs.size<=T'->h'.get? T'=some oT->oT.data=.fields ts->ts[3]?=some .none->Q () { s with heap:=h' }) :
  wpAny M A (noteFrame (.ref e) env) (fun _ s₂=>wpAny M A (setFlight (.ref e) none) Q E s₂) E s:=by
 unfold noteFrame
 simp only [hf]
 cases T with
 | none =>
  have h1:vs[1]?=some .none:=ht
  refine wpAny_bind (wpAny_field he hd h1 ?_)
  rw [if_neg (by decide)]
  exact F6 hfr hl hf he hd (Array.getElem?_eq_some_iff.mp h1).1 fun h' T' oT ts a1 a2 a3 a4 a5 a6=>h h' T' oT ts (fun b o q ne _=>a1 b o q ne) a2 a3 a4 a5 a6
 | some T =>
  obtain ⟨h1,hTe,oT,ts,hT,hdT,h3⟩:=ht
  refine wpAny_bind (wpAny_field he hd h1 ?_)
  rw [if_pos (show (Value.ref T != Value.none)=true from by simp)]
  refine wpAny_bind (wpAny_field hT hdT h3 ?_)
  rw [if_neg (show ¬ ((Value.none == rawInt L)=true) from by simp [rawInt])]
  refine wpAny_bind (wpAny_setField hT hdT (Array.getElem?_eq_some_iff.mp h3).1 ?_)
  have other:∀ b,b≠T->(s.heap.update T (Obj.mapFields (·.setIfInBounds 3 Value.none))).get? b=s.heap.get? b:=fun b hb=>Heap.get?_update_other _ _ (Ne.symm hb)
  have noRecord:∀ b o,s.heap.get? b=some o->(∀ vs,o.data≠.fields vs)->b≠T:=fun b o hb hnf q=>by
   rw [q,hT] at hb;injection hb with hb;subst hb;exact hnf ts hdT
  refine F6 (base:=base) hfr (hl.of_keeps fun b o hb hnf=>⟨o,(other b (noRecord b o hb hnf)).trans hb,rfl⟩) hf ((other e (Ne.symm hTe)).trans he) hd (Array.getElem?_eq_some_iff.mp h1).1
   fun h' T' oT' ts' a1 a2 a3 a4 a5 a6=>h h' T' oT' ts' (fun b o q ne nT=>a1 b o ((other b fun z=>nT (by rw [z])).trans q) ne) a2 (by rw [Heap.size_after_update] at a3;exact a3) a4 a5 a6
end
end L2
namespace L2
open PySem PySem.Spec
section
variable {prog:Program} {w:World} {A:Around} {E:Value->Shared->Prop} {h:Heap} {g:Array GenState} {d:Drawn} {t:Nat} {os:OsState}
variable {nm q:Str} {C N:Addr} {bs bm:List Value} {hdct:Bool} {sn:List Str} {sub:List Value} {ab:Bool} {col:Option Bool} {dd:Option Addr} {k0 k1 k2 k3 k5:Option Value}
def We:List Value:=[.type "ValueError",.type "Exception",.type "BaseException",.type "object"]
theorem vF:ExcBaseFacts "ValueError" "ValueError.__new__" "ValueError.__init__" We:=PySem.F.excBase_ValueError
structure sF (bm:List Value):Prop where
 v:bm.contains (.type "ValueError")=true
 a:bm.contains (.type "AttributeError")=false
 n:bm.contains (.type "NameError")=false
 b:bm.contains (.type "BaseException")=true
theorem Py (V:sF bm) {M:Model} {rest:List Value} {Q:Unit->Shared->Prop} (hC:h.get? C=some (excClassObj nm q C N bs bm hdct sn sub ab col dd k0 k1 k2 k3 k5 "ValueError.__new__"))
  (hq:Q () ⟨h,g,d,t,os⟩):wpAny M A (checkBuiltinCall "ValueError.__new__" ⟨.ref C :: rest,[]⟩) Q E ⟨h,g,d,t,os⟩:=by
 have hcont:(Value.ref C :: bm).contains (.type "ValueError")=true:=by rw [List.contains_cons,V.v,Bool.or_true]
 have hstar:=vF.noStar
 simp only [checkBuiltinCall,vF.newKind,vF.newSplit,vF.newRow]
 repeat (first | refine wpAny_loadPart_at hC ?_ | (refine wpAny_isSubtype_exc hC ?_;rw [hcont]) | refine wpAny_staticBase_exc hC ?_ | refine wpAny_madeBy_exc hC ?_ | simp only [bne_self_eq_false,Bool.false_eq_true,if_false] | wp_step)
 exact hq
theorem VB (V:sF bm) {R:Result->Shared->Prop} {rest:List Value} (hC:h.get? C=some (excClassObj nm q C N bs bm hdct sn sub ab col dd k0 k1 k2 k3 k5 "ValueError.__new__"))
  (hq:R (.ok (.ret (.ref (h.objs.size + 1)))) ⟨(h.push { cls:=.type "tuple",data:=.seq rest.toArray }).push
   { cls:=.ref C,data:=.fields #[.ref h.objs.size,.none,.none,.none,.bool false,.none] },g,d,t,os⟩) (hrest:rest.length<=sizeLine) :
  codeAny (model prog w) A (.builtin "ValueError.__new__" ⟨.ref C :: rest,[]⟩) R ⟨h,g,d,t,os⟩:=by
 have hends:=vF.ends
 have hcB:(Value.ref C :: bm).contains (.type "ValueError")=true:=by rw [List.contains_cons,V.v,Bool.or_true]
 have hcA:(Value.ref C :: bm).contains (.type "AttributeError")=false:=by rw [List.contains_cons,V.a];rfl
 have hcN:(Value.ref C :: bm).contains (.type "NameError")=false:=by rw [List.contains_cons,V.n];rfl
 refine codeAny_builtinAt vF.entry ?_
 unfold Builtin.«BaseException.__new__»
 refine wpAt_bind ?_
 show wpAt _ _ _ (stack >>= _) _ _ _
 refine wpAt_bind (wpAt_stack fun p below=>wpAt_of_wpAny ?_)
 wp_walk
 refine wpAt_of_wpAny ?_
 rw [vF.owner]
 repeat (first | with_reducible refine wpAny_madeHere_exc vF.canon hC ?_ | with_reducible refine wpAny_loadPart_at hC ?_ | (with_reducible refine wpAny_isSubtype_exc hC ?_;first | rw [hcB] | rw [hcA] | rw [hcN]) | wp_step)
 show R _ _
 rw [Heap.size_push]
 exact hq
def mC (h:Heap) (C:Addr) (us:List Value):Heap:=(h.push { cls:=.type "tuple",data:=.seq us.toArray }).push { cls:=.ref C,data:=.fields #[.ref h.objs.size,.none,.none,.none,.bool false,.none] }
theorem zZ (h:Heap) (C:Addr) (us:List Value):(mC h C us).get? (h.objs.size + 1)=some { cls:=.ref C,data:=.fields #[.ref h.objs.size,.none,.none,.none,.bool false,.none] }:=by
 unfold mC;heap_get
theorem jE (h:Heap) (C:Addr) (us:List Value):∀ b o,h.get? b=some o->(mC h C us).get? b=some o:=fun b o e=>Heap.get?_push_of_some _ (Heap.get?_push_of_some _ e)
theorem Hg (V:sF bm) {K:PySem.W.Frag} {rest:List Value} {fI:Addr} {oI:Obj} {Q:Fin->Shared->Prop} (KX:K.In h)
  (hC:h.get? C=some (excClassObj nm q C N bs bm hdct sn sub ab col dd k0 k1 k2 k3 k5 "ValueError.__new__")) (hi:PySem.W.findIn K (.ref C) "__init__"=some (some (.ref fI)))
  (hfI:h.get? fI=some oI) (hfc:oI.cls=.type "function")
  (hq:wpAny (model prog w) A (call (.ref fI) (.ref (h.objs.size + 1) :: rest)) (fun r s'=>r=.none/\Q (.done (.ret (.ref (h.objs.size + 1)))) s') E ⟨mC h C rest,g,d,t,os⟩) (hrest:rest.length<=sizeLine) :
  wpAny (model prog w) A (Builtin.«type.__call__» ⟨.ref C :: rest,[]⟩) Q E ⟨h,g,d,t,os⟩:=by
 repeat (first | with_reducible refine wpAny_loadPart_at hC ?_ | with_reducible refine wpAny_madeBy_exc hC ?_ | wp_step)
 refine codeAny_call_builtin_code (Code.quiet_builtin _ vF.quiet) (Py V hC ?_)
 refine VB V hC ?_ hrest
 show wpAny _ _ _ _ _ _
 have hk:=jE h C rest
 have hC₁:=hk _ _ hC
 have hfI₁:=hk _ _ hfI
 have KX₁:=KX.keeps hk
 have hget:=zZ h C rest
 have hcC:(Value.ref C :: bm).contains (.ref C)=true:=by simp
 show wpAny _ _ _ _ _ (⟨mC h C rest,g,d,t,os⟩:Shared)
 unfold isInstance
 repeat (first | with_reducible refine wpAny_loadPart_at hget ?_ | (with_reducible refine wpAny_isSubtype_exc hC₁ ?_;rw [hcC]) | wp_step)
 show wpAny _ _ (typeLookup (.ref C) _) _ _ _
 refine (PySem.W.looks_findIn KX₁ hi).here ?_
 refine wpAny_holding (wpAny_bind ?_)
 unfold bindSpecial
 refine wpAny_bind (wpAny_typeOf (T:="function") ⟨_,hfI₁,hfc⟩ ?_)
 rw [if_pos (by decide)]
 refine wpAny_pure (wpAny_bind (wpAny_mono hq (fun r s' hr=>?_) fun _ _ x=>x))
 obtain ⟨rfl,hQ⟩:=hr
 wp_walk
 exact hQ
theorem UD (V:sF bm) {K:PySem.W.Frag} {rest:List Value} {fI:Addr} {oI:Obj} {Q:Value->Shared->Prop} (KX:K.In h)
  (hC:h.get? C=some (excClassObj nm q C N bs bm hdct sn sub ab col dd k0 k1 k2 k3 k5 "ValueError.__new__")) (hi:PySem.W.findIn K (.ref C) "__init__"=some (some (.ref fI)))
  (hfI:h.get? fI=some oI) (hfc:oI.cls=.type "function")
  (hq:wpAny (model prog w) (A.under (.builtin "type.__call__" ⟨.ref C :: rest,[]⟩)) (call (.ref fI) (.ref (h.objs.size + 1) :: rest)) (fun r s'=>r=.none/\Q (.ref (h.objs.size + 1)) s') E ⟨mC h C rest,g,d,t,os⟩) (hrest:rest.length<=sizeLine) :
  wpAny (model prog w) A (call (.ref C) rest) Q E ⟨h,g,d,t,os⟩:=by
 have f1:=tc_lookup
 have f2:=tc_bind (.ref C)
 have hT:(⟨h,g,d,t,os⟩:Shared).TypeIs (.ref C) "type":=⟨_,hC,rfl⟩
 refine wpAny_call (codeAny_of_tree ?_)
 show wpAny _ _ (callAny (.ref C) _) _ _ _
 repeat (any_goals (first | assumption | with_reducible refine wpAny_loadPart_at hC ?_ | wp_step))
 refine ⟨rfl,?_⟩
 refine codeAny_call_builtin_at (Code.quiet_builtin _ (by decide +kernel)) entry_typeCall (wpAny_check_type_call_sub hC (Hg V KX hC hi hfI hfc ?_ hrest))
 exact hq
end
end L2
namespace L2
open PySem PySem.Spec
open Builtin Builtin.ObjectAttr
section
variable {prog:Program} {w:World} {A:Around} {E:Value->Shared->Prop} {h:Heap} {g:Array GenState} {d:Drawn} {t:Nat} {os:OsState}
variable {nm q:Str} {C N R x:Addr} {bs:List Value} {sn:List Str} {sub:List Value} {ab:Bool} {col:Option Bool} {dd:Option Addr} {k0 k1 k2 k3 k5:Option Value} {K:PySem.W.Frag} {name:Str} {v:Value}
abbrev oU (R:Addr):List Value:=.ref R :: We
theorem Vq (R:Addr):sF (oU R):=⟨rfl,rfl,rfl,rfl⟩
theorem R3 {M:Model} {o:Obj} {nameV:Value} {Q:Unit->Shared->Prop} (hC:h.get? C=some (excClassObj nm q C N bs (oU R) true sn sub ab col dd k0 k1 k2 k3 k5 "ValueError.__new__")) (hx:h.get? x=some o) (hc:o.cls=.ref C) (hq:Q () ⟨h,g,d,t,os⟩) :
  wpAny M A (checkBuiltinCall "object.__setattr__" ⟨[.ref x,nameV,v],[]⟩) Q E ⟨h,g,d,t,os⟩:=by
 have hcB:(Value.ref C :: oU R).contains (.type "object")=true:=by rw [List.contains_cons];rfl
 have SF:=PySem.F.store_ValueError
 have ha:=SF.args (.ref x) nameV v
 simp only [checkBuiltinCall,SF.kind,SF.split]
 refine wpAny_bind ?_
 ·unfold isInstance
  repeat (first | (with_reducible refine wpAny_loadPart_at hx ?_;rw [hc]) | (with_reducible refine wpAny_isSubtype_exc hC ?_;rw [hcB]) | wp_step)
  exact hq
theorem RE {o:Obj} {Q:Unit->Shared->Prop} (KX:K.In h)
  (hC:h.get? C=some (excClassObj nm q C N bs (oU R) true sn sub ab col dd k0 k1 k2 k3 k5 "ValueError.__new__"))
  (hsa:PySem.W.findIn K (.ref C) "__setattr__"=some (some (.builtin "object.__setattr__"))) (hna:PySem.W.findIn K (.ref C) name=some none)
  (hx:h.get? x=some o) (hc:o.cls=.ref C) (hnc:∀ c,o.data≠.cls c) (hdn:o.dict=none)
  (hq:∀ h' tk',h'.Ns1 h.objs.size (fun y=>if y=name then some v else none)->h'.get? x=some { o with dict:=some h.objs.size }->(∀ b ob,b≠x->h.get? b=some ob->h'.get? b=some ob)->Q () ⟨h',g,d,tk',os⟩) :
  wpAny (model prog w) A (setAttr (.ref x) name v) Q E ⟨h,g,d,t,os⟩:=by
 have SF:=PySem.F.store_ValueError
 have f3:=SF.slot.bind (.ref x)
 have hpass:refuseLoop (.ref x) "__setattr__" (.ref C :: oU R)=pure ():=by rw [refuseLoop_ref,refuseLoop_ref];exact SF.passes (.ref x)
 have L1:∀ {h':Heap} {t':Nat} {A':Around} {Q':Option Value->Shared->Prop} {E':Value->Shared->Prop},(∀ b o,h.get? b=some o->h'.get? b=some o)->Q' (some (.builtin "object.__setattr__")) ⟨h',g,d,t',os⟩->wpAny (model prog w) A' (typeLookup (.ref C) "__setattr__") Q' E' ⟨h',g,d,t',os⟩ :=
  fun k z=>(PySem.W.looks_findIn (KX.keeps k) hsa).here z
 have L2':∀ {t':Nat} {A':Around} {Q':Option Value->Shared->Prop} {E':Value->Shared->Prop},Q' none ⟨h,g,d,t',os⟩->wpAny (model prog w) A' (typeLookup (.ref C) name) Q' E' ⟨h,g,d,t',os⟩ :=
  fun z=>(PySem.W.looks_findIn KX hna).here z
 have entry:∀ {tk:Tok} {t':Nat} {A':Around} {Q':Fin->Shared->Prop} {E':Value->Shared->Prop},
   (∀ h' tk',h'.Ns1 h.objs.size (fun y=>if y=name then some v else none)->h'.get? x=some { o with dict:=some h.objs.size }->(∀ b ob,b≠x->h.get? b=some ob->h'.get? b=some ob)->Q' (.done (.ret .none)) ⟨h',g,d,tk',os⟩) ->
   wpAny (model prog w) A' (Builtin.«object.__setattr__» ⟨[.ref x,.str name tk,v],[]⟩) Q' E' ⟨h,g,d,t',os⟩:=by
  intro tk t' A' Q' E' hq
  unfold Builtin.«object.__setattr__»
  repeat (first | rw [refuse_eq] | (rw [hpass]) | (with_reducible refine wpAny_loadPart_at hx ?_;rw [hc]) | with_reducible refine wpAny_mroOf_exc hC ?_ | (with_reducible refine L2' ?_) | wp_step)
  rw [hdn,if_neg (by simp [typeHasDict])]
  split
  ·rename_i hcd
   cases hcd
  split
  ·rename_i c hcd
   exact absurd hcd (hnc c)
  ·have hx₁:(h.push { cls:=.type "dict",data:=.dict #[] }).get? x=some o:=Heap.get?_push_of_some _ hx
   have hxs:x≠h.objs.size:=Nat.ne_of_lt (Heap.lt_size hx)
   refine wpAny_bind (wpAny_alloc' ?_)
   refine wpAny_bind (wpAny_update' hx₁ ?_)
   refine wpAny_pure ?_
   have hgd:((h.push { cls:=.type "dict",data:=.dict #[] }).update x fun o=>{ cls:=o.cls,dict:=some h.objs.size,data:=o.data,slots:=o.slots }).get? h.objs.size
     = some { cls:=.type "dict",data:=.dict #[] } :=
    (Heap.get?_update_ne _ _ _ _ hxs.symm).trans (Heap.get?_push_at rfl rfl)
   have hnd:((h.push { cls:=.type "dict",data:=.dict #[] }).update x fun o=>{ cls:=o.cls,dict:=some h.objs.size,data:=o.data,slots:=o.slots }).Ns h.objs.size (fun _=>none) :=
    ⟨_,#[],_,hgd,rfl,fun e he=>absurd he (by simp),fun _=>rfl⟩
   show wpAny _ _ (storeInDict h.objs.size (.str name tk) name v) _ _ _
   unfold storeInDict newKeyGuard
   refine wpAny_bind (wpAny_pure (wpAny_bind (wpAny_nsSet1 (Heap.Ns1.of_empty hnd) fun h' hn' hs=>?_)))
   obtain ⟨oD,esD,epD,hoD,hdD,hcD⟩:=hn'.count (Within.cons name v Within.nil)
   refine wpAny_bind (wpAny_lookBehind hoD (by rw [hdD];exact pastItsLine_dict (Nat.le_trans hcD (by rw [List.length_cons,List.length_nil,sizeLine_eq];omega))) ?_)
   wp_walk
   refine hq h' _ hn' ?_ (fun b ob hbx hb=>?_)
   ·refine (hs.2 x hxs).trans (Heap.get?_update_self _ hx₁ ?_)
    have hfr:=(Heap.get?_some_iff.mp hx).2
    obtain ⟨oc,od,odt,osl⟩:=o
    cases odt <;> first | rfl | exact hfr
   ·exact (hs.2 b (Nat.ne_of_lt (Heap.lt_size hb))).trans ((Heap.get?_update_ne _ _ _ _ hbx).trans (Heap.get?_push_of_some _ hb))
 unfold setAttr callSpecial? specialOf
 repeat (any_goals (first | assumption | (with_reducible refine wpAny_loadPart_at hx ?_;rw [hc]) | (with_reducible refine L1 (fun _ _ z=>z) ?_) | wp_step))
 refine codeAny_call_builtin SF.slot.plain SF.entry (R3 hC hx hc (entry fun h' tk' a1 a2 a3=>?_))
 repeat (any_goals (first | assumption | wp_step))
 exact hq h' tk' a1 a2 a3
def rG (C t:Addr) (dx:Option Addr):Obj:={ cls:=.ref C,dict:=dx,data:=.fields #[.ref t,.none,.none,.none,.bool false,.none] }
theorem T6 {t0:Addr} {rest:List Value} {Q:Value->Shared->Prop}
  (hC:h.get? C=some (excClassObj nm q C N bs (oU R) true sn sub ab col dd k0 k1 k2 k3 k5 "ValueError.__new__")) (hx:h.get? x=some (rG C t0 none)) (hrest:rest.length<=sizeLine)
  (hq:∀ h',h'.get? x=some (rG C h.objs.size none)->(∀ b ob,b≠x->h.get? b=some ob->h'.get? b=some ob)->Q .none ⟨h',g,d,t,os⟩) :
  wpAny (model prog w) A (call (.builtin "ValueError.__init__") (.ref x :: rest)) Q E ⟨h,g,d,t,os⟩:=by
 have hcB:(Value.ref C :: oU R).contains (.type "ValueError")=true:=by rw [List.contains_cons];rfl
 have hshort:=vF.noStar
 unfold rG at hx
 have chk:∀ {A':Around} {E':Value->Shared->Prop} {Q':Unit->Shared->Prop},Q' () ⟨h,g,d,t,os⟩->wpAny (model prog w) A' (checkBuiltinCall "ValueError.__init__" ⟨.ref x :: rest,[]⟩) Q' E' ⟨h,g,d,t,os⟩:=by
  intro A' E' Q' hq
  simp only [checkBuiltinCall,vF.initKind,vF.initSplit,vF.initRow]
  repeat (first | (with_reducible refine wpAny_loadPart_at hx ?_) | with_reducible refine wpAny_loadPart_at hC ?_ | (with_reducible refine wpAny_isSubtype_exc hC ?_;rw [hcB]) | wp_step)
  refine wpAny_onRaise ?_
  rw [show ∀ (a b:String) (n:Nat),Bind.check ⟨.positional,"*","ValueError",.self,[⟨"args",.varPos,false⟩]⟩ a b n (List.map (fun x=>x.fst) ({ pos:=Value.ref x :: rest }:Args).kw)=pure () from
   fun a b n=>check_star_args _ _ _ _ _ _]
  exact wpAny_pure hq
 refine wpAny_call (codeAny_call_builtin vF.init.plain vF.initEntry (chk ?_))
 have hx₁:=Heap.get?_push_of_some { cls:=.type "tuple",data:=.seq rest.toArray } hx
 unfold Builtin.«BaseException.__init__»
 wp_walk
 refine hq _ ?_ fun b ob hb e=>?_
 ·rw [Heap.get?_update_self _ hx₁ rfl];rfl
 ·rw [Heap.get?_update_other _ _ (Ne.symm hb)];exact Heap.get?_push_of_some _ e
end
end L2
namespace L2
open PySem PySem.Spec PyProof.Rows
def eI (a C:Addr) (dx:Option Addr) (h:Heap):Prop:=∃ t,h.get? a=some (rG C t dx)
theorem eI.obj {P:Program} {w:World} {H:Hp} {h:Heap} {a C:Addr} {dx:Option Addr} (x:eI a C dx h):dB P w H h a (.ext (eI a C dx)) :=
 ⟨x,let ⟨_,e⟩:=x;⟨_,e⟩,fun _ _ ⟨t,e⟩ k=>⟨t,k _ e⟩⟩
structure oY (K:PySem.W.Frag) (C R fI:Addr):Prop where
 obj:∃ nm q N bs sn sub ab col dd k0 k1 k2 k3 k5,K.lookup C=some (excClassObj nm q C N bs (oU R) true sn sub ab col dd k0 k1 k2 k3 k5 "ValueError.__new__")
 init:PySem.W.findIn K (.ref C) "__init__"=some (some (.ref fI))
 fn:PySem.W.isFn K (.ref fI)=true
 kp:PySem.W.keepIn K (.ref C)=true
 sa:PySem.W.findIn K (.ref C) "__setattr__"=some (some (.builtin "object.__setattr__"))
structure AO (K:PySem.W.Frag) (R:Addr):Prop where
 rd:PySem.W.readsIn K R (.type "type")=true
 ini:PySem.W.findCls K (.ref R) (.type "type") "__init__"=some (.val (.builtin "ValueError.__init__"))
 sp:PySem.W.specialIn K (.ref R) "__getattribute__"=some (some (.builtin "type.__getattribute__"))
section
variable {P:Program} {w:World} {H:Hp} {h h':Heap} {a d:Addr} {o:HO}
theorem eE.add (x:eE P w H h) (n:H d=none) (new:dB P w (upd H d o) h d o):eE P w (upd H d o) h:=fun b u e=>by
 by_cases hb:b=d
 ·subst hb;rw [b8] at e;cases e;exact new
 ·rw [bD hb] at e
  exact (x b u e).stay (fun c v _ q=>q) (fun c q=>by rw [bD (bJ q n)];exact q) fun c xs q=>by rw [bD (bJ q n)];exact q
theorem Un.add {fs ex:List Addr} {H1:Hp} (u:Un fs ex H H1 h h') (hp:h.objs.size<=d) (n:H1 d=none):Un fs ex H (upd H1 d o) h h' where
 keep:=u.keep
 slot:=u.slot
 free:=fun b v q z hx=>by rw [bD (Nat.ne_of_lt (Nat.lt_of_lt_of_le (Heap.lt_size q) hp))];exact u.free b v q z hx
 there:=u.there
 tups:=fun b xs q=>by have:=u.tups b xs q;rw [bD (bJ this n)];exact this
 frzs:=fun b v xs q=>by have:=u.frzs b v xs q;rw [bD (bJ this n)];exact this
 tbls:=fun b ps q=>by obtain ⟨m,e⟩:=u.tbls b ps q;exact ⟨m,by rw [bD (bJ e n)];exact e⟩
end
section
variable {X:Cx} {e1 e2:Expr} {t1 t2 ta tv:TE} {p pos apos pos':Pos} {r f:Str} {R:Addr}
def VU (K:PySem.W.Frag) (R:Addr) (t1 t2:TE):TE:=fun σ H Q=>t1 σ H fun x H1=>t2 σ H1 fun y H2=>∃ a C fI,x=.ref a/\H2 a=some (.ext (eI a C none))/\oY K C R fI/\Q .non H2
theorem O8 {H:Hp} {a:Addr} {o:HO} (h:H a=some o):upd H a o=H:=by
 funext b;unfold upd;split
 ·rename_i e;subst e;exact h.symm
 ·rfl
theorem RC {pl:Sem Bool} (hg:Gl X r) (hm:X.mg r=some (.ref R)) (B:AO X.K R) (h1:PE X e1 t1) (h2:PE X e2 t2) (hdb:(r == ("__debug__":Str))=false:=by decide)
  (hs1:starEach [e1,e2] X.env=[(false,eval e1 X.env),(false,eval e2 X.env)]:=by rfl) (hs2:starEach [e2] X.env=[(false,eval e2 X.env)]:=by rfl)
  (ht:eval (.Call (.Attribute (.Name r p) "__init__" apos) [e1,e2] [] pos) X.env=(do
   let ov <- eval (.Name r p) X.env
   standAt apos.atName
   let (f,first) <- holding [ov] (getMethod ov "__init__" pl)
   callWith pos f first (backTo pos (starEach [e1,e2] X.env)) (backToKw pos (keywordEach [] X.env))):=by rfl) :
  PE X (.Call (.Attribute (.Name r p) "__init__" apos) [e1,e2] [] pos) (VU X.K R t1 t2):=by
 intro pins s σ H Q I h
 refine PySem.W.methodCall_KW (pl:=pl) (nG I hg hm ?_ hdb) ht
 refine PySem.W.method_cls I.kIn B.sp (PySem.W.cls_value I.kIn B.rd B.ini rfl ?_)
 have ha:PA X [e1,e2] (fun σ H Q=>t1 σ H fun x H1=>t2 σ H1 fun y H2=>Q [x,y] H2):=by
  have:=pT h1 (pT h2 xS (by rw [hs2];rfl)) (by rw [hs1,hs2])
  intro pos pins s σ H Q I h
  exact this pos pins s σ H Q I h
 let Q1:List V->Hp->Prop:=fun vs H2=>match vs with | [x,y]=>(∃ a C fI,x=.ref a/\H2 a=some (.ext (eI a C none))/\oY X.K C R fI/\Q .non H2) | _=>False
 refine PyProof.Rows.callWith_builtin1 (bP (ha pos pins _ σ H Q1 (I.tok _) h) fun us s1 ⟨vs,H1,I1,rv,q⟩=>?_) (by rw [hs1,hs2]) (by rw [hs2];rfl)
 match vs,rv,q with
 | [x,y],rv,⟨a,C,fI,ex,ea,hK,q⟩ =>
  obtain ⟨u1,u2,rfl,r1,r2⟩:=vals2 rv
  subst ex
  obtain rfl:u1=Value.ref a:=r1
  obtain ⟨nm,qq,N,bs,sn,sub,ab,col,dd,k0,k1,k2,k3,k5,hC⟩:=hK.obj
  obtain ⟨⟨t0,ht0⟩,_,_⟩:=I1.hok a _ ea
  obtain ⟨hh,g,d,t,os⟩:=s1
  refine T6 (I1.kIn _ _ hC) ht0 (by show 1<=sizeLine;decide) fun h' e1 e2=>?_
  refine ⟨.non,H1,?_,rfl,q⟩
  have:=I1.write (h':=h') (t':=t) (x:=a) (e:=a) (o:=.ext (eI a C none)) (by rw [ea];trivial) (.inl rfl) e2 ⟨_,e1⟩ (eI.obj ⟨_,e1⟩)
  rw [O8 ea] at this
  exact this
def Wa (K:PySem.W.Frag) (ta tv:TE) (f:Str):TS:=fun D σ H=>tv σ H fun y H1=>ta σ H1 fun x H2=>∃ a C,x=.ref a/\H2 a=some (.ext (eI a C none))/\(∃ R fI,oY K C R fI/\xT K C f)/\∀ d,H2 d=none->d≠a->D.nx σ (upd (upd H2 a (.ext (eI a C (some d)))) d (.xd [(f,y)]))
theorem RH {o value:Expr} (ha:PE X o ta) (hv:PE X value tv) (hs:swapsWith value (some (.Attribute o f pos')) pos.line X.env=pure false):PS X (.Assign [.Attribute o f pos'] value pos) (Wa X.K ta tv f):=by
 intro pins s σ H D I h
 refine plainObj_wpAny_Assign_Attribute (bP (hv pins s σ H _ I h) fun u s1 ⟨y,H1,I1,ry,q⟩=>bP (ha pins s1 σ H1 _ I1 q) fun ov s2 ⟨x,H2,I2,rx,a,C,ex,ea,c,q2⟩=>?_) hs
 subst ex
 obtain rfl:ov=Value.ref a:=rx
 obtain ⟨R,fI,c,n⟩:=c
 obtain ⟨nm,qq,N,bs,sn,sub,ab,col,dd,k0,k1,k2,k3,k5,hC⟩:=c.obj
 obtain ⟨⟨t0,ht0⟩,_,_⟩:=I2.hok a _ ea
 obtain ⟨hh,g,d,t,os⟩:=s2
 have hlt:a < hh.objs.size:=Heap.lt_size ht0
 have hfr:H2 hh.objs.size=none:=I2.hok.fresh (Nat.le_refl _)
 refine RE (o:=rG C t0 none) I2.kIn (I2.kIn _ _ hC) c.sa n ht0 rfl (fun c z=>by cases z) rfl fun h' tk' hn hx hk=>?_
 refine ⟨σ,_,?_,q2 hh.objs.size hfr (Nat.ne_of_gt hlt)⟩
 have mu:La (H2 a):=by rw [ea];trivial
 have nd:upd H2 a (.ext (eI a C (some hh.objs.size))) hh.objs.size=none:=by rw [bD (Nat.ne_of_gt hlt)];exact hfr
 have hok1:eE X.prog X.w (upd H2 a (.ext (eI a C (some hh.objs.size)))) h':=I2.hok.write mu (.inl rfl) hk ⟨_,hx⟩ (eI.obj ⟨_,hx⟩)
 have un1:Un X.fs [] H2 (upd H2 a (.ext (eI a C (some hh.objs.size)))) hh h':=Un.write mu (.inl rfl) hk ⟨_,hx⟩
 refine I2.un (t':=tk') (un1.add (Nat.le_refl _) nd) (hok1.add nd ⟨_,hn,fun f'=>?_⟩)
 by_cases hf:f'=f
 ·subst hf
  simp only [List.lookup,beq_self_eq_true,if_true]
  exact ry
 ·have:(f' == f)=false:=beq_eq_false_iff_ne.mpr hf
  simp only [List.lookup,this,if_neg hf]
  trivial
end
def oC (C:Addr) (attr:Str) (cond:V->Prop):Sp:=fun vs H Q E=>∃ a y,vs=[.ref a,y]/\H a=some (.ext (eI a C none))/\cond y/\∀ d,H d=none->d≠a->Q .non (upd (upd H a (.ext (eI a C (some d)))) d (.xd [(attr,y)]))
theorem RL {P:Program} {w:World} {K:PySem.W.Frag} {mg:Str->Option Value} {base:Heap} {qual par attr rn:Str} {st:Stmt} {f C R:Addr} {fd:FuncData} {k:Nat} {e2:Expr} {cond:V->Prop} {t2:TE} {p1 p2 p3 p5 p6 p7 p8 p9 p10:Pos}
  (F:b9 K "__init__" qual st f fd) (hm:mg rn=some (.ref R)) (B:AO K R) (c:oY K C R f) (n:xT K C attr)
  (hb:bA st=[.Expr (.Call (.Attribute (.Name rn p1) "__init__" p2) [.Name "self" p3,e2] [] p5) p6,.Assign [.Attribute (.Name "self" p7) attr p8] (.Name par p9) p10])
  (S:bB ["self",par] ["self",par] (aF st)) (hg:(aF st).names.lookup rn=some .globalImplicit)
  (h2:∀ X:Cx,X.N=[("self":Str),par]->X.env.scope=aF st->X.mg=mg->PE X e2 t2) (ht2:∀ a y H Q,cond y->(∀ z,Q z H)->t2 [some (.ref a),some y] H Q)
  {pl:Env->Sem Bool} (ht:∀ env,eval (.Call (.Attribute (.Name rn p1) "__init__" p2) [.Name "self" p3,e2] [] p5) env=(do
   let ov <- eval (.Name rn p1) env
   standAt p2.atName
   let (f,first) <- holding [ov] (getMethod ov "__init__" (pl env))
   callWith p5 f first (backTo p5 (starEach [.Name "self" p3,e2] env)) (backToKw p5 (keywordEach [] env))):=by intro _;rfl)
  (hs1:∀ env,starEach [.Name "self" p3,e2] env=[(false,eval (.Name "self" p3) env),(false,eval e2 env)]:=by intro _;rfl) (hs2:∀ env,starEach [e2] env=[(false,eval e2 env)]:=by intro _;rfl)
  (hl1:(aF st).names.lookup ("self":Str)=some .local:=by rfl) (hl2:(aF st).names.lookup par=some .local:=by rfl) (hdb:(rn == ("__debug__":Str))=false:=by decide) (hpd:(par == ("__debug__":Str))=false:=by decide) (hpc:(par == ("__classdict__":Str))=false:=by decide)
  (hsw:∀ env,swapsWith (.Name par p9) (some (.Attribute (.Name "self" p7) attr p8)) p10.line env=pure false:=by intro _;rfl) :
  dX P w K mg base j6 (k + 1) f fd ["self",par] (oC C attr cond):=by
 refine F.ok S (fun vs H Q E ⟨a,y,e,_⟩=>by rw [e];rfl) fun cdv A outer s H vs Q E hr ⟨a,y,e,ha,hy,hq⟩=>?_
 subst e
 rw [hb]
 let X:Cx:=(mY j6 P w K mg base ["self",par] qual (aF st) f cdv A outer s H E).nox
 have ps:PE X (.Name "self" p3) (vM 0):=nK rfl (.inl hl1)
 have ps':PE X (.Name "self" p7) (vM 0):=nK rfl (.inl hl1)
 have pp:PE X (.Name par p9) (vM 1):=nK rfl (.inl hl2) hpd hpc
 refine ⟨_,vG (GW (RC (X:=X) hg hm B ps (h2 X rfl rfl rfl) hdb (hs1 _) (hs2 _) (ht _)) ) (yN (RH ps' pp (hsw _))),?_⟩
 refine ⟨_,rfl,ht2 a y H _ hy fun z=>⟨a,C,f,rfl,ha,c,?_⟩⟩
 exact ⟨_,rfl,_,rfl,a,C,rfl,ha,⟨R,f,c,n⟩,fun d h1 h2=>hq d h1 h2⟩
end L2
namespace L2
open PySem PySem.Spec PyProof.Rows
structure KJ (sz:Nat) (nw:Addr->Prop) (h:Heap) (a C d:Addr) (fs:List (Str × V)):Prop where
 sa:sz<=a
 na:nw a
 nd:nw d
 ad:a≠d
 obj:∃ oe vs T,h.get? a=some oe/\oe.cls=.ref C/\oe.dict=some d/\oe.data=.fields vs/\Wk h a vs T/\∀ T',T=some T'->sz<=T'/\nw T'/\T'≠d
 att:∃ mA,h.Ns1 d mA/\∀ f,B7 (fs.lookup f) (mA f)
theorem KJ.imp {n n':Nat} {nw nw':Addr->Prop} {h:Heap} {a C d:Addr} {fs:List (Str × V)} (r:KJ n nw h a C d fs) (hn:n'<=n) (i:∀ b,nw b->nw' b):KJ n' nw' h a C d fs :=
 ⟨Nat.le_trans hn r.sa,i _ r.na,i _ r.nd,r.ad,let ⟨oe,vs,T,h1,h2,h3,h4,h5,h6⟩:=r.obj;⟨oe,vs,T,h1,h2,h3,h4,h5,fun T' e=>⟨Nat.le_trans hn (h6 T' e).1,i _ (h6 T' e).2.1,(h6 T' e).2.2⟩⟩,r.att⟩
def sY (X:Cx) (pins:List (Addr × Obj)) (H:Hp) (b:Addr):Prop:=X.s₀.heap.get? b=none/\H b=none/\b≠X.env.locals/\∀ p∈X.pn++pins,p.1≠b
section
variable {X:Cx} {pins:List (Addr × Obj)} {σ:St} {H:Hp} {s:Shared} {a C d:Addr} {fs:List (Str × V)}
theorem sY.of (I:Inv X pins σ H s) (hx:X.ex=[]) {H':Hp} {b:Addr} (h:s.heap.get? b=none) (n:H' b=none):sY X pins H' b:=by
 refine ⟨?_,n,fun e=>?_,fun p hp e=>?_⟩
 ·cases q:X.s₀.heap.get? b with
  | none=>rfl
  | some o =>
   obtain ⟨o',e⟩:=I.base.there b o q (by rw [hx];simp)
   rw [h] at e;cases e
 ·obtain ⟨m,⟨o,es,ep,ho,r⟩,_⟩:=I.loc
  rw [<- e,h] at ho;cases ho
 ·have:=(I.pin p hp).1
  rw [e,h] at this;cases this
abbrev n8 (X:Cx) (pins:List (Addr × Obj)) (H:Hp) (h:Heap) (a C d:Addr) (fs:List (Str × V)):Prop:=KJ X.s₀.heap.objs.size (sY X pins H) h a C d fs
theorem sY.nofs (I:Inv X pins σ H s) {b:Addr} (n:sY X pins H b):b ∉ lI X.stack:=fun hb=>by
 rcases List.mem_cons.mp (I.stkSub b hb) with e | e
 ·exact n.2.2.1 e
 ·obtain ⟨_,o,ho,_⟩:=I.ok.funs.mem e
  rw [n.1] at ho;cases ho
theorem P6 {M:Model} {E:Value->Shared->Prop} {Q:Unit->Shared->Prop} (I:Inv X pins σ H s) (hst:X.stack=X.env :: X.outer) (hf:X.env.frame=some X.env.locals) (hx:X.ex=[]) (r:n8 X pins H s.heap a C d fs)
  (h:∀ s',s'.os=s.os->Inv X pins σ H s'->n8 X pins H s'.heap a C d fs->Q () s') :
  wpAny M X.A (noteFrame (.ref a) X.env) (fun _ s₂=>wpAny M X.A (setFlight (.ref a) none) Q E s₂) E s:=by
 obtain ⟨oe,vs,T,e1,e2,e3,e4,e5,e6⟩:=r.obj
 obtain ⟨mA,n1,n2⟩:=r.att
 obtain ⟨od,esd,epd,f1,f2,f3⟩:=id n1
 have hsz:1 < vs.size:=by
  cases T with
  | none=>exact (Array.getElem?_eq_some_iff.mp (show vs[1]?=some .none from e5)).1
  | some T=>exact (Array.getElem?_eq_some_iff.mp e5.1).1
 refine O1 (base:=X.base) (L:=X.env.locals) (by rw [<- hst];exact I.ok.frames) (by rw [<- hst];exact I.stack) hf e1 e4 e5 fun h' T' oT ts k1 k2 k3 k4 k5 k6=>?_
 rw [<- hst] at k1
 have nT:∀ T'',T=some T''->sY X pins H T'':=fun T'' e=>(e6 T'' e).2.1
 have kt:∀ b o,s.heap.get? b=some o->H b≠none->h'.get? b=some o:=fun b o e hb =>
  (k1 b o e (fun z=>hb (by rw [z];exact r.na.2.1)) (fun z=>hb (nT b z).2.1)).1 fun z=>hb (I.stkFree b z)
 have kd:h'.get? d=some od:=(k1 d od f1 (Ne.symm r.ad) (fun z=>(e6 d z).2.2 rfl)).1 (r.nd.nofs I)
 have un:Un (lI X.stack) (a :: T.toList) H H s.heap h':=by
  have hch:∀ b,b ∉ a :: T.toList->b≠a/\T≠some b:=fun b hb=>⟨fun z=>hb (by rw [z];exact List.mem_cons_self),fun z=>hb (by rw [z];exact List.mem_cons_of_mem _ List.mem_cons_self)⟩
  exact ⟨fun b o e _ hb hc=>(k1 b o e (hch b hc).1 (hch b hc).2).1 hb,fun b o e _ _ hc=>(k1 b o e (hch b hc).1 (hch b hc).2).2,fun _ _ _ n _=>n,
   fun b o e hc=>let ⟨sl,q⟩:=(k1 b o e (hch b hc).1 (hch b hc).2).2;⟨_,q⟩,fun _ _ q=>q,fun _ _ _ q=>q,fun _ ps q=>⟨#[],by rw [q];simp⟩⟩
 have hok:eE X.prog X.w H h':=fun b o e=>(I.hok b o e).stay (fun c u hc q=>kt c u q (by
  rcases hc with rfl | hc
  ·rw [e];exact fun z=>nomatch z
  ·rw [hc];exact fun z=>nomatch z) ) (fun _ q=>q) fun _ _ q=>q
 have ncell:∀ b:Addr,(∃ o vs,s.heap.get? b=some o/\o.data=.fields vs)->∀ x c,X.env.cells.lookup x=some c->c≠b:=fun b ⟨o,vs,q1,q2⟩ x c e z=>by
  obtain ⟨v,oc,g1,g2⟩:=I.cell x c e
  rw [z,q1] at g1;cases g1;rw [q2] at g2;cases g2
 have I':Inv X pins σ H { s with heap:=h' }:=I.call (g':=s.gens) (t':=s.toks) (d':=s.drawn) un hok I.bare fun b hb=>by
  rcases List.mem_cons.mp hb with rfl | hb
  ·exact ⟨.inr r.sa,r.na.2.2.1,ncell b ⟨_,_,e1,e4⟩,r.na.2.2.2⟩
  ·cases T with
   | none=>cases hb
   | some T =>
    obtain rfl:b=T:=by simpa using hb
    obtain ⟨_,_,oT0,ts0,g1,g2,_⟩:=e5
    exact ⟨.inr (e6 b rfl).1,(nT b rfl).2.2.1,ncell b ⟨_,_,g1,g2⟩,(nT b rfl).2.2.2⟩
 refine h _ rfl I' ⟨r.sa,r.na,r.nd,r.ad,⟨_,_,some T',k2,?_,?_,Obj.data_mapFields e4 _,⟨?_,?_,oT,ts,k4,k5,k6⟩,?_⟩,mA,⟨od,esd,epd,kd,f2,f3⟩,n2⟩
 ·rw [Obj.cls_mapFields];exact e2
 ·obtain ⟨oc,odi,odt,osl⟩:=oe
  cases odt <;> exact e3
 ·simp [hsz]
 ·exact fun z=>absurd (Heap.lt_size e1) (by rw [<- z];exact Nat.not_lt.mpr k3)
 ·intro T'' e
  cases e
  exact ⟨Nat.le_trans I.sz k3,sY.of I hx (Heap.get?_none_of_le k3) (I.hok.fresh k3),fun z=>absurd (Heap.lt_size f1) (by rw [<- z];exact Nat.not_lt.mpr k3)⟩
end
end L2
namespace L2
open PySem PySem.Spec PyProof.Rows
def sQ (P:Program) (w:World):sA:=fun outer H s E e s'=>∃ a C d fs H',e=.ref a/\s'.os=s.os/\AllBare s'.gens/\Un (lI outer) [] H H' s.heap s'.heap/\eE P w H' s'.heap /\
 KJ s.heap.objs.size (fun b=>s.heap.get? b=none/\H' b=none) s'.heap a C d fs/\E (.ref C) (some d) (upd H' d (.xd fs))
abbrev XS:=Value->Option Addr->St->Hp->Prop
def XP (X:Cx) (pins:List (Addr × Obj)) (E:XS) (e:Value) (s':Shared):Prop:=∃ a C d fs σ' H',e=.ref a/\Inv X pins σ' H' s'/\n8 X pins H' s'.heap a C d fs/\E (.ref C) (some d) σ' (upd H' d (.xd fs))
abbrev sO:=Ends->XS->St->Hp->Prop
abbrev Qg:=St->Hp->VK->XS->Prop
def S3 (X:Cx) (e:Expr) (t:Qg):Prop :=
 ∀ (pins:List (Addr × Obj)) (s:Shared) (σ:St) (H:Hp) (Q:VK) (E:XS),Inv X pins σ H s->t σ H Q E->wpAny (model X.prog X.w) X.A (eval e X.env) (EP X pins σ Q) (XP X pins E) s
def BV (X:Cx) (st:Stmt) (t:sO):Prop :=
 ∀ (pins:List (Addr × Obj)) (s:Shared) (σ:St) (H:Hp) (D:Ends) (E:XS),Inv X pins σ H s->t D E σ H->wpAny (model X.prog X.w) X.A (exec st X.env) (SP X pins D) (XP X pins E) s
def pB (X:Cx) (st:List Stmt) (t:sO):Prop :=
 ∀ (pins:List (Addr × Obj)) (s:Shared) (σ:St) (H:Hp) (D:Ends) (E:XS),Inv X pins σ H s->t D E σ H->wpAny (model X.prog X.w) X.A (execs st X.env) (SP X pins D) (XP X pins E) s
section
variable {X:Cx} {e:Expr} {te:TE} {tx:Qg} {st:Stmt} {rest a b:List Stmt} {t u:TS} {t' u':sO} {pos:Pos}
abbrev Gy (X:Cx):Prop:=X.xe=fun _ _=>False
theorem SI (hx:Gy X) (h:PS X st t):BV X st (fun D _ σ H=>t D σ H):=fun pins s σ H D E I q=>wpAny_mono (h pins s σ H D I q) (fun _ _ z=>z) fun _ _ z=>by rw [hx] at z;exact z.elim
theorem Q4 (hx:Gy X) (h:mL X rest t):pB X rest (fun D _ σ H=>t D σ H):=fun pins s σ H D E I q=>wpAny_mono (h pins s σ H D I q) (fun _ _ z=>z) fun _ _ z=>by rw [hx] at z;exact z.elim
def WK (t u:sO):sO:=fun D E σ H=>t { D with nx:=u D E } E σ H
theorem MG (h1:BV X st t') (h2:pB X rest u'):pB X (st :: rest) (WK t' u'):=by
 intro pins s σ H D E I h
 refine wpAny_execs_cons (bP (h1 pins s σ H { D with nx:=u' D E } E I h) fun f s1 q=>?_)
 cases f with
 | next =>
  obtain ⟨σ',H',I',q⟩:=q
  exact h2 pins s1 σ' H' D E I' q
 | ret v=>exact q
 | brk=>exact q
 | cont=>exact q
theorem OR (h1:BV X st t'):pB X [st] t':=by
 intro pins s σ H D E I h
 refine wpAny_execs_cons (bP (h1 pins s σ H D E I h) fun f s1 q=>?_)
 cases f with
 | next=>exact wpAny_execs_nil q
 | ret v=>exact q
 | brk=>exact q
 | cont=>exact q
def WZ (c:TT) (t u:sO):sO:=fun D E σ H=>c σ H fun b H1=>if b=true then t D E σ H1 else u D E σ H1
theorem Tt {c:Expr} {tc:TT} (hx:Gy X) (hc:PT X c tc) (ha:pB X a t') (hb:pB X b u'):BV X (.If c a b pos) (WZ tc t' u'):=by
 intro pins s σ H D E I h
 refine wpAny_If (wpAny_mono (hc pins s σ H _ I h) (fun d s1 ⟨H1,I1,q1⟩=>?_) fun _ _ z=>by rw [hx] at z;exact z.elim)
 cases d with
 | true=>exact ha pins s1 σ H1 D E I1 q1
 | false=>exact hb pins s1 σ H1 D E I1 q1
theorem RJ {i:Nat} {x:Str} {pos':Pos} (hN:X.N.Nodup) (hi:X.N[i]?=some x) (hx:Loc X.env.scope x) (he:S3 X e tx) (hs:swapsWith e (some (.Name x pos')) pos.line X.env=pure false:=by rfl) (hf:X.fn x=true\/X.env.scope.names.lookup x=some .local:=by first | exact .inl rfl | exact .inr rfl | assumption) :
  BV X (.Assign [.Name x pos'] e pos) (fun D E σ H=>tx σ H (fun v H1=>D.nx (σ.set i (some v)) H1) E):=by
 intro pins s σ H D E I h
 refine wpAny_Assign_Name (bP (he pins s σ H _ E I h) fun v s1 ⟨y,H1,I1,r1,q1⟩=>?_) hs
 exact qJ I1 hN hi hx r1 (fun s2 I2=>⟨_,H1,I2,q1⟩) hf
def PV (sp:Sp) (dvs:List V) (t:TA):Qg:=fun σ H Q E=>t σ H fun vs H1=>sp (vs++dvs) H1 Q fun c d H2=>E c d σ H2
theorem Q7 {k:Nat} {f:Addr} {fd:FuncData} {ps:List Str} {sp:Sp} {dvs:List V} {ds:List Value} {pins:List (Addr × Obj)} {σ:St} {H:Hp} {s:Shared} {Q:VK} {E:XS} {us:List Value} {vs:List V}
  (hex:X.ex=[]) (F:dX X.prog X.w X.K X.mg X.base (sQ X.prog X.w) k f fd ps sp) (hr:cS k X.A) (hb:Binds X.K fd ps ds) (hd:Vals dvs ds) (I:Inv X pins σ H s) (r:Vals vs us) (h:sp (vs++dvs) H Q fun c d H2=>E c d σ H2) :
  wpAny (model X.prog X.w) X.A (call (.ref f) us) (EP X pins σ Q) (XP X pins E) s:=by
 have r2:Vals (vs++dvs) (us++ds):=r.append hd
 have hl:(us++ds).length=ps.length:=by rw [<- r2.length];exact F.len _ _ _ _ h
 refine wpAny_call (codeAny_mono (F.run X.A X.stack s H ⟨us,[]⟩ (us++ds) (vs++dvs) Q (fun c d H2=>E c d σ H2) hr I.env0 (hb s us I.kIn hl) r2 h) fun r s' hq=>?_)
 cases r with
 | error e =>
  obtain ⟨a,C,d,fs,H',rfl,os,bare,un,hok,r,q⟩:=hq
  exact ⟨a,C,d,fs,σ,H',rfl,I.call' os un hok bare (fun b z=>absurd z (by simp)),r.imp I.sz fun b z=>sY.of I hex z.1 z.2,q⟩
 | ok fl =>
  cases fl with
  | ret u=>exact I.after hq
  | next=>exact False.elim hq
  | brk=>exact False.elim hq
  | cont=>exact False.elim hq
theorem OU {k:Nat} {f:Addr} {fd:FuncData} {ps:List Str} {sp:Sp} {dvs:List V} {ds:List Value} {x:Str} {p:Pos} {es:List Expr} {ta:TA} (hx:Gy X) (hex:X.ex=[]) (F:dX X.prog X.w X.K X.mg X.base (sQ X.prog X.w) k f fd ps sp) (hr:cS k X.A) (hg:Gl X x) (hm:X.mg x=some (.ref f)) (hk:PySem.W.keepIn X.K (.ref f)=true) (hb:Binds X.K fd ps ds) (hd:Vals dvs ds)
  (ha:PA X (e :: es) ta) (hdb:(x == ("__debug__":Str))=false:=by decide) (he:starEach (e :: es) X.env=(false,eval e X.env) :: starEach es X.env:=by rfl) (hpl:(backTo pos (starEach es X.env)).any (·.1)=false:=by rfl) :
  S3 X (.Call (.Name x p) (e :: es) [] pos) (PV sp dvs ta):=by
 intro pins s σ H Q E I h
 refine wpAny_Call_Name_kw (nG I hg hm ?_ hdb)
 refine PySem.W.callWith_K (h₀:=X.base) I.ok.mod.kin hk (wpAny_mono (ha pos pins s σ H _ I h) (fun us s1 ⟨vs,H1,I1,r,q⟩=>⟨I1.kIn,?_⟩) fun _ _ z=>by rw [hx] at z;exact z.elim) he hpl
 exact Q7 hex F hr hb hd I1 r q
def K8 (K:PySem.W.Frag) (C:Addr) (attr:Str) (cond:V->Prop) (te:TE):sO:=fun _ E σ H=>te σ H fun y H1=>cond y/\∀ d,H1 d=none->E (.ref C) (some d) σ (upd H1 d (.xd [(attr,y)]))
theorem GL {nm q:Str} {C N R:Addr} {bs:List Value} {sn:List Str} {sub:List Value} {ab:Bool} {col:Option Bool} {dd:Option Addr} {k0 k1 k2 k3 k5:Option Value} {A:Around} {M:Model} {s:Shared} {E:Value->Shared->Prop} {env:Env} {x:Sem Value} {Q:Flow->Shared->Prop} (hh:A.handled=none)
  (h:wpAny M A x (fun v s₁=>∃ e t d,v=.ref e/\s₁.heap.get? C=some (excClassObj nm q C N bs (oU R) true sn sub ab col dd k0 k1 k2 k3 k5 "ValueError.__new__")/\s₁.heap.get? e=some (rG C t (some d))/\E (.ref e) s₁) E s) :
  wpAny M A (raiseStmt env (some x) none) Q E s:=by
 have hcB:(Value.ref C :: oU R).contains (.type "BaseException")=true:=by rw [List.contains_cons];rfl
 unfold raiseStmt
 refine wpAny_bind (wpAny_mono h (fun v s₁ h₁=>?_) fun _ _ x=>x)
 obtain ⟨e,t,d,rfl,hC,he,hE⟩:=h₁
 unfold rG at he
 obtain ⟨hp,g,d,tk,os⟩:=s₁
 repeat (first | with_reducible refine wpAny_loadPart_at he ?_ | with_reducible refine wpAny_loadPart_at hC ?_ | (with_reducible refine wpAny_isSubtype_exc hC ?_;rw [hcB]) | wp_step)
 exact wpAny_raiseNew_none hh hE
end
end L2
namespace L2
open PySem PySem.Spec PyProof.Rows
section
variable {X:Cx}
theorem eE.forget {P:Program} {w:World} {H H':Hp} {h:Heap} (x:eE P w H' h) (sub:∀ b o,H b=some o->H' b=some o) (back:∀ b o,H' b=some o->H b=some o\/(∀ y,o≠.own y)/\∀ xs,o≠.tup xs):eE P w H h:=fun b o e =>
 (x b o (sub b o e)).stay (fun _ _ _ q=>q) (fun c q=>(back c _ q).elim (fun z=>z) fun z=>absurd rfl (z.1 _)) fun c xs q=>(back c _ q).elim (fun z=>z) fun z=>absurd rfl (z.2 _)
theorem Rp {k:Nat} {C R fI:Addr} {fd:FuncData} {par attr:Str} {cond:V->Prop} {pins:List (Addr × Obj)} {σ:St} {H:Hp} {s:Shared} {u:Value} {y:V} {E:Value->Shared->Prop} (hex:X.ex=[]) (c:oY X.K C R fI)
  (F:dX X.prog X.w X.K X.mg X.base j6 k fI fd ["self",par] (oC C attr cond)) (hr:cS (k + 1) X.A) (hb:Binds X.K fd ["self",par] []) (I:Inv X pins σ H s) (r:RelV y u) (hy:cond y) :
  wpAny (model X.prog X.w) X.A (call (.ref C) [u]) (fun v s'=>∃ a t d,v=.ref a/\s'.heap.get? a=some (rG C t (some d))/\Inv X pins σ H s'/\n8 X pins H s'.heap a C d [(attr,y)]) E s:=by
 obtain ⟨nm,qq,N,bs,sn,sub,ab,col,dd,k0,k1,k2,k3,k5,hC⟩:=c.obj
 have hfn:∃ oI,X.K.lookup fI=some oI/\oI.cls=.type "function":=by
  have:(X.K.lookup fI).map (·.cls)=some (.type "function"):=beq_iff_eq.mp c.fn
  cases q:X.K.lookup fI with
  | none=>rw [q] at this;cases this
  | some oI=>rw [q] at this;exact ⟨oI,rfl,by simpa using this⟩
 obtain ⟨oI,hoI,hoc⟩:=hfn
 obtain ⟨hh,g,d,t,os⟩:=s
 let A0:Addr:=hh.objs.size + 1
 have hn0:H A0=none:=I.hok.fresh (Nat.le_succ _)
 have I2:Inv X pins σ (upd H A0 (.ext (eI A0 C none))) ⟨mC hh C [u],g,d,t,os⟩:=I.laid (t':=t) (jE hh C [u]) (Nat.le_succ _) (eI.obj ⟨_,zZ hh C [u]⟩)
 let H2:Hp:=upd H A0 (.ext (eI A0 C none))
 let Q1:VK:=fun v H'=>v=.non/\∃ d,H2 d=none/\d≠A0/\H'=upd (upd H2 A0 (.ext (eI A0 C (some d)))) d (.xd [(attr,y)])
 have hq:oC C attr cond [.ref A0,y] H2 Q1 E0:=⟨A0,y,rfl,b8,hy,fun d h1 h2=>⟨rfl,d,h1,h2,rfl⟩⟩
 have r2:Vals [V.ref A0,y] [Value.ref A0,u]:=.cons rfl (.cons r .nil)
 refine UD (Vq R) I.kIn (I.kIn _ _ hC) c.init (I.kIn _ _ hoI) hoc ?_ (by show 1<=sizeLine;decide)
 refine wpAny_call (codeAny_mono (F.run _ X.stack _ H2 ⟨[Value.ref A0,u],[]⟩ [Value.ref A0,u] _ Q1 E0 (hr.make C [u] []) (I2.env0.make C [u] []) (by have:=hb ⟨mC hh C [u],g,d,t,os⟩ [Value.ref A0,u] I2.kIn rfl;simpa using this) r2 hq) fun r s' hq'=>?_)
 cases r with
 | error e=>exact False.elim hq'
 | ok fl =>
  cases fl with
  | next=>exact False.elim hq'
  | brk=>exact False.elim hq'
  | cont=>exact False.elim hq'
  | ret v =>
   obtain ⟨v',H',eo,bare,un,hok,rv,rfl,d',h1,h2,rfl⟩:=hq'
   refine ⟨rv,A0,?_⟩
   have hd0:H d'=none:=by rw [<- bD (H:=H) (o:=.ext (eI A0 C none)) h2];exact h1
   have sz:∀ b o,H b=some o->b≠A0/\b≠d':=fun b o e=>⟨bJ e hn0,bJ e hd0⟩
   have hgd:(mC hh C [u]).get? d'=none:=by
    cases q:(mC hh C [u]).get? d' with
    | none=>rfl
    | some o =>
     have:=un.free d' o q h1 (by simp)
     rw [b8] at this;cases this
   have hgd0:hh.get? d'=none:=by
    cases q:hh.get? d' with
    | none=>rfl
    | some o=>rw [jE hh C [u] _ _ q] at hgd;cases hgd
   have lt:∀ b o,hh.get? b=some o->b≠A0/\b≠d':=fun b o e=>⟨Nat.ne_of_lt (Nat.lt_succ_of_lt (Heap.lt_size e)),fun z=>by rw [z,hgd0] at e;cases e⟩
   have up:∀ b,b≠A0->H2 b=H b:=fun b hb=>bD hb
   have un':Un (lI X.stack) [] H H hh s'.heap:=⟨fun b o e n hb hx=>un.keep b o (jE _ _ _ _ _ e) (by rw [up b (lt b o e).1];exact n) hb hx,
    fun b o e n hb hx=>un.slot b o (jE _ _ _ _ _ e) (by rw [up b (lt b o e).1];exact n) hb hx,fun _ _ _ n _=>n,fun b o e hx=>un.there b o (jE _ _ _ _ _ e) hx,fun _ _ q=>q,fun _ _ _ q=>q,fun _ ps q=>⟨#[],by rw [q];simp⟩⟩
   have hok':eE X.prog X.w H s'.heap:=hok.forget (fun b o e=>by rw [bD (sz b o e).2,bD (sz b o e).1,up b (sz b o e).1];exact e) fun b o e=>by
    by_cases hb:b=d'
    ·subst hb;rw [b8] at e;cases e;exact .inr ⟨fun _ z=>(nomatch z),fun _ z=>(nomatch z)⟩
    ·rw [bD hb] at e
     by_cases hb:b=A0
     ·subst hb;rw [b8] at e;cases e;exact .inr ⟨fun _ z=>(nomatch z),fun _ z=>(nomatch z)⟩
     ·rw [bD hb,up b hb] at e;exact .inl e
   have I3:Inv X pins σ H s':=I.call' (s:=⟨hh,g,d,t,os⟩) eo un' hok' bare (fun b z=>absurd z (by simp))
   have oa:=hok A0 (.ext (eI A0 C (some d'))) (by rw [bD (Ne.symm h2),b8])
   obtain ⟨⟨t0,e1⟩,_,_⟩:=oa
   obtain ⟨mA,n1,n2⟩:=hok d' (.xd [(attr,y)]) b8
   refine ⟨t0,d',rfl,e1,I3,Nat.le_trans I.sz (Nat.le_succ _),sY.of I hex (Heap.get?_none_of_le (Nat.le_succ _)) hn0,sY.of I hex hgd0 hd0,Ne.symm h2,⟨_,_,none,e1,rfl,rfl,rfl,rfl,fun T' z=>by cases z⟩,mA,n1,n2⟩
theorem LY {k:Nat} {C R fI:Addr} {fd:FuncData} {par attr x:Str} {cond:V->Prop} {e:Expr} {te:TE} {np cpos pos:Pos} (hx:Gy X) (hex:X.ex=[]) (hcalm:X.calm=true) (c:oY X.K C R fI)
  (F:dX X.prog X.w X.K X.mg X.base j6 k fI fd ["self",par] (oC C attr cond)) (hr:cS (k + 1) X.A) (hb:Binds X.K fd ["self",par] []) (hg:Gl X x) (hm:X.mg x=some (.ref C)) (he:PE X e te) (hdb:(x == ("__debug__":Str))=false:=by decide)
  (hs:starEach [e] X.env=[(false,eval e X.env)]:=by rfl):BV X (.Raise (some (.Call (.Name x np) [e] [] cpos)) none pos) (K8 X.K C attr cond te):=by
 intro pins s σ H D E I h
 obtain ⟨nm,qq,N,bs,sn,sub,ab,col,dd,k0,k1,k2,k3,k5,hC⟩:=c.obj
 rw [arm_exec_Raise]
 have ev:wpAny (model X.prog X.w) X.A (eval (.Call (.Name x np) [e] [] cpos) X.env) (fun v s'=>∃ a t d,v=.ref a/\s'.heap.get? C=some (excClassObj nm qq C N bs (oU R) true sn sub ab col dd k0 k1 k2 k3 k5 "ValueError.__new__")/\s'.heap.get? a=some (rG C t (some d))/\XP X pins E (.ref a) s') (XP X pins E) s:=by
  refine wpAny_Call_Name_kw (nG I hg hm ?_ hdb)
  have pa:PA X [e] (fun σ H Q=>te σ H fun y H1=>Q [y] H1):=pT he xS (by rw [hs];rfl)
  let Q1:List V->Hp->Prop:=fun vs H1=>match vs with | [y]=>(cond y/\∀ d,H1 d=none->E (.ref C) (some d) σ (upd H1 d (.xd [(attr,y)]))) | _=>False
  refine PySem.W.callWith_K (h₀:=X.base) I.ok.mod.kin c.kp (wpAny_mono (pa cpos pins s σ H Q1 I h) (fun us s1 ⟨vs,H1,I1,r,q⟩=>⟨I1.kIn,?_⟩) fun _ _ z=>by rw [hx] at z;exact z.elim) (by rw [hs];rfl) rfl
  match vs,r,q with
  | [y],.cons r .nil,⟨q1,q2⟩ =>
   refine bP (Rp hex c F hr hb I1 r q1) fun v s' ⟨a,t,d,z1,z2,I2,z3⟩=>?_
   exact ⟨a,t,d,z1,I2.kIn _ _ hC,z2,a,C,d,_,σ,H1,rfl,I2,z3,q2 d z3.nd.2.1⟩
 have hh:X.A.handled=none:=I.ok.hd hcalm
 first
  | exact wpAny_bind (wpAny_standAt (GL hh (wpAny_bind (wpAny_mono ev (fun v s₁ h₁=>wpAny_bind (wpAny_standAt (wpAny_pure h₁))) fun _ _ x=>x))))
  | (simp only [evalOpt,Option.map];exact wpAny_bind (wpAny_standAt (GL hh (wpAny_bind (wpAny_mono ev (fun v s₁ h₁=>wpAny_bind (wpAny_standAt (wpAny_pure h₁))) fun _ _ x=>x)))))
end
end L2
namespace L2
open PySem PySem.Spec PyProof.Rows
theorem Us {P:Program} {w:World} {K:PySem.W.Frag} {mg:Str->Option Value} {base:Heap} {k:Nat} {f:Addr} {name qual:Str} {params:Arguments} {body:List Stmt} {scope:Scope} {dV kV doc pm cdv ct oc:Value} {an od:Option Addr}
  {osl:Array (Option Value)} {N ps:List Str} {sp:Sp} (lk:K.lookup f=some ⟨oc,od,.func (PySem.W.fnOf name qual params body scope dV kV doc pm an cdv ct),osl⟩) (hcd:PySem.W.codeIn K cdv qual=true) (S:bB N ps scope)
  (len:∀ vs H Q E,sp vs H Q E->vs.length=ps.length)
  (hbody:∀ (A:Around) (outer:List Env) (s:Shared) (H:Hp) (vs:List V) (Q:VK) (E:XK),cS k (A.deeper (envOfC qual scope s.heap.objs.size f cdv))->sp vs H Q E ->
   ∃ t,pB (mY (sQ P w) P w K mg base N qual scope f cdv A outer s H E).nox body t/\t { nx:=fun _ H'=>Q .non H',rt:=Q } (fun c d _ H'=>E c d H') (start N vs) H) :
  dX P w K mg base (sQ P w) (k + 1) f (PySem.W.fnOf name qual params body scope dV kV doc pm an cdv ct) ps sp:=by
 refine ⟨len,fun A outer s H args us vs Q E hr e0 hb r hsp=>?_⟩
 have hl:=len _ _ _ _ hsp
 have KX:K.In s.heap:=e0.mod.kin.keeps fun b o e=>(e0.bs b o e).1
 have lim:s.heap.NoLimit:=e0.mod.nolimit.keeps fun b o e=>(e0.bs b o e).1
 have hkind:∀ y∈ps.zip us,scope.names.lookup y.1=some .local\/(scope.names.lookup y.1=some .cell/\((cellsFrom (s.heap.objs.size + 1) scope.names []).lookup y.1).isSome=true):=fun ⟨n,v⟩ hy=>by
  rcases S.par n (List.of_mem_zip hy).1 with q | q
  ·exact .inl q
  ·exact .inr ⟨q,PySem.W.cellsFrom_some _ _ _ (.inl q)⟩
 refine codeAny_call_function hr.depth (KX _ _ lk) rfl S.co S.gen rfl (PySem.W.codeRec_of KX hcd) (hb _ _ _ _ ?_)
 refine wpAny_newFunctionEnv_cells S.kind hkind fun env he s1 x=>?_
 subst he
 refine ⟨lim.keeps x.toInCall.keep,codeAny_func ?_⟩
 obtain ⟨t,ht,hq⟩:=hbody A outer s H vs Q E (hr.deeper _) hsp
 have I:Inv (mY (sQ P w) P w K mg base N qual scope f cdv A outer s H E) [] (start N vs) H s1:=zM S hr.hd e0 hl r x
 refine wpAny_mono (ht [] s1 (start N vs) H _ _ (I.wish _) hq) (fun fl s' hs=>?_) fun e s' hs=>?_
 ·have fin:∀ {σ':St} {H':Hp} {v:V} {u:Value},Inv (mY (sQ P w) P w K mg base N qual scope f cdv A outer s H E).nox [] σ' H' s'->RelV v u->Q v H'->CE outer P w H s Q u s' :=
   fun {σ' H' v u} J rv q=>⟨v,H',J.os,J.bare,J.base,J.hok,rv,q⟩
  cases fl with
  | ret u =>
   obtain ⟨v,σ',H',J,rv,q⟩:=hs
   exact fin J rv q
  | next =>
   obtain ⟨σ',H',J,q⟩:=hs
   exact fin (v:=V.non) (u:=Value.none) J rfl q
  | brk =>
   obtain ⟨_,_,_,q⟩:=hs
   exact False.elim q
  | cont =>
   obtain ⟨_,_,_,q⟩:=hs
   exact False.elim q
 ·obtain ⟨a,C,d,fs,σ',H',rfl,J,r,q⟩:=hs
  show wpAny _ _ (leaving _ _) _ _ _
  unfold leaving
  refine wpAny_bind (P6 (X:=(mY (sQ P w) P w K mg base N qual scope f cdv A outer s H E).nox) J rfl rfl rfl r fun s'' eo J' r'=>?_)
  exact ⟨a,C,d,fs,H',rfl,J'.os,J'.bare,J'.base,J'.hok,r'.imp (Nat.le_refl _) fun b z=>⟨z.1,z.2.1⟩,q⟩
theorem b9.okX {P:Program} {w:World} {K:PySem.W.Frag} {mg:Str->Option Value} {base:Heap} {x qual:Str} {st:Stmt} {f:Addr} {fd:FuncData} {N ps:List Str} {k:Nat} {sp:Sp} (F:b9 K x qual st f fd) (S:bB N ps (aF st)) (len:∀ vs H Q E,sp vs H Q E->vs.length=ps.length)
  (hbody:∀ (cdv:Value) (A:Around) (outer:List Env) (s:Shared) (H:Hp) (vs:List V) (Q:VK) (E:XK),cS k (A.deeper (envOfC qual (aF st) s.heap.objs.size f cdv))->sp vs H Q E ->
   ∃ t,pB (mY (sQ P w) P w K mg base N qual (aF st) f cdv A outer s H E).nox (bA st) t/\t { nx:=fun _ H'=>Q .non H',rt:=Q } (fun c d _ H'=>E c d H') (start N vs) H):dX P w K mg base (sQ P w) (k + 1) f fd ps sp:=by
 obtain ⟨oc,od,kV,doc,pm,an,cdv,ct,osl,rfl,lk,hcd⟩:=F.ex
 exact Us lk hcd S len fun A outer s H vs Q E hr hsp=>hbody cdv A outer s H vs Q E hr hsp
section
variable {X:Cx} {pins:List (Addr × Obj)} {σ:St} {H:Hp} {s:Shared}
theorem name_goes {M:Model} {A:Around} {E:Value->Shared->Prop} {i:Nat} {n:Str} {pos:Pos} {Q:Unit->Shared->Prop} (I:Inv X pins σ H s) (hN:X.N.Nodup) (hi:X.N[i]?=some n) (hk:X.env.scope.names.lookup n=some .local)
  (h:∀ s',Inv X pins (σ.set i none) H s'->Q () s'):wpAny M A (do bindName X.env n .none;unbindBehindTheSuite X.env n pos) Q E s:=by
 obtain ⟨m,hn,hl⟩:=id I.loc
 have hcls:(X.env.scope.kind == .class || (X.env.scope.kind == .module && X.env.locals != X.env.globals))=false:=by rw [I.ok.kind];rfl
 have hiσ:i < σ.length:=by rw [I.len];exact (List.getElem?_eq_some_iff.mp hi).1
 have cne:=I.cne
 refine wpAny_nameGoes_keeps hk hn hcls fun h' v hn' hs=>?_
 obtain ⟨oL,_,_,hoL,_⟩:=id hn
 have tracked:eE X.prog X.w H h':=fun b ob e=>by
  refine (I.hok b ob e).stay (fun c w' hc q=>(hs.2 c ?_).trans q) (fun _ q=>q) fun _ _ q=>q
  rintro rfl
  rcases hc with rfl | hc
  ·rw [I.free] at e;cases e
  ·rw [I.free] at hc;cases hc
 refine h _ ⟨I.ok,I.os,I.bare,⟨fun b o e n hb hx=>?_,fun b o e n hb hx=>?_,I.base.free,fun b o e hx=>?_,I.base.tups,I.base.frzs,I.base.tbls⟩,⟨_,hn',fun j y v' e1 e2 e3=>?_⟩,fun y c e=>?_,I.free,I.freeC,fun p hp=>?_,tracked,by simpa using I.len⟩
 ·exact (hs.2 b (Nat.ne_of_lt (Nat.lt_of_lt_of_le (Heap.lt_size e) I.ok.above))).trans (I.base.keep b o e n hb hx)
 ·obtain ⟨sl,e1⟩:=I.base.slot b o e n hb hx
  exact ⟨sl,(hs.2 b (Nat.ne_of_lt (Nat.lt_of_lt_of_le (Heap.lt_size e) I.ok.above))).trans e1⟩
 ·obtain ⟨o',e1⟩:=I.base.there b o e hx
  exact ⟨o',(hs.2 b (Nat.ne_of_lt (Nat.lt_of_lt_of_le (Heap.lt_size e) I.ok.above))).trans e1⟩
 ·by_cases hj:j=i
  ·subst hj
   rw [List.getElem?_set_self hiσ] at e2
   cases e2
  ·rw [List.getElem?_set_ne (Ne.symm hj)] at e2
   obtain ⟨u',r',q⟩:=hl j y v' e1 e2 e3
   refine ⟨u',r',?_⟩
   rcases q with ⟨k,e⟩ | ⟨k,c,e,z⟩
   ·refine .inl ⟨k,?_⟩
    have:y≠n:=fun e=>hj (vV hN e1 (e ▸ hi))
    simp [this,e]
   ·exact .inr ⟨k,c,e,z.sameBut hs (cne y c e)⟩
 ·obtain ⟨w',z⟩:=I.cell y c e
  exact ⟨w',z.sameBut hs (cne y c e)⟩
 ·obtain ⟨e,n,ne,nf,d⟩:=I.pin p hp
  exact ⟨(hs.2 p.1 ne).trans e,n,ne,nf,d⟩
end
end L2
namespace L2
open PySem PySem.Spec PyProof.Rows
structure Iq (K:PySem.W.Frag) (C:Addr):Prop where
 ty:PySem.W.typeIn K (.ref C)=some (.type "type")
 cls:(PySem.W.clsIn K C).isSome=true
 ex:PySem.W.subIn K (.ref C) (.type "BaseException")=some true
theorem Fp {K:PySem.W.Frag} {M:Model} {A:Around} {E:Value->Shared->Prop} {s:Shared} {a C Cn:Addr} {oe:Obj} {b:Bool} {Q:Bool->Shared->Prop} (KX:K.In s.heap) (c:Iq K Cn) (he:s.heap.get? a=some oe) (hc:oe.cls=.ref C) (hs:PySem.W.subIn K (.ref C) (.ref Cn)=some b)
  (hq:Q b s):wpAny M A (excMatches (.ref a) (.ref Cn)) Q E s:=by
 have L1:PySem.W.Looks M s.heap (typeOf (.ref Cn)) (.type "type"):=PySem.W.looks_typeIn KX c.ty
 have L2':PySem.W.Looks M s.heap (isSubtype (.ref Cn) (.type "BaseException")) true:=PySem.W.looks_subIn KX c.ex
 have L3:PySem.W.Looks M s.heap (isSubtype (.ref C) (.ref Cn)) b:=PySem.W.looks_subIn KX hs
 have L4:PySem.W.Looks M s.heap (isType (.ref Cn)) true:=by
  have z:=c.cls
  unfold PySem.W.clsIn at z
  split at z
  ·rename_i c' d' cd' sl' ho
   intro A' Q' E' s' k q
   unfold isType loadHead
   exact wpAny_bind (wpAny_loadPart (k _ _ (KX _ _ ho)) (wpAny_pure q))
  ·cases z
 have f:=tc_notTuple
 unfold excMatches isInstance isExcClass
 refine wpAny_bind (wpAny_bind (L1.here ?_))
 rw [f]
 refine wpAny_pure ?_
 simp only [Bool.false_eq_true,if_false]
 refine wpAny_bind (wpAny_pure ?_)
 obtain ⟨hp,g,d,tk,os⟩:=s
 have L4':∀ {Q':Bool->Shared->Prop} {E':Value->Shared->Prop},Q' true ⟨hp,g,d,tk,os⟩->wpAny M A (isType (.ref Cn)) Q' E' ⟨hp,g,d,tk,os⟩:=fun q=>L4.here q
 have L2'':∀ {Q':Bool->Shared->Prop} {E':Value->Shared->Prop},Q' true ⟨hp,g,d,tk,os⟩->wpAny M A (isSubtype (.ref Cn) (.type "BaseException")) Q' E' ⟨hp,g,d,tk,os⟩:=fun q=>L2'.here q
 have L3':∀ {Q':Bool->Shared->Prop} {E':Value->Shared->Prop},Q' b ⟨hp,g,d,tk,os⟩->wpAny M A (isSubtype (.ref C) (.ref Cn)) Q' E' ⟨hp,g,d,tk,os⟩:=fun q=>L3.here q
 repeat (first | with_reducible refine L4' ?_ | with_reducible refine L2'' ?_ | with_reducible refine L3' ?_ | (with_reducible refine wpAny_loadPart_at he ?_;rw [hc]) | wp_step)
 cases b <;> (wp_walk;exact hq)
def Cx.inX (X:Cx) (a:Addr) (pl:List (Addr × Obj)):Cx:={ X with A:=X.A.mark (some (.ref a)),calm:=false,pn:=X.pn++pl }
section
variable {X:Cx} {pins pl:List (Addr × Obj)} {σ:St} {H:Hp} {s:Shared} {a C d:Addr} {fs:List (Str × V)}
theorem Inv.inX (I:Inv X pins σ H s) (hp:∀ p∈pl,s.heap.get? p.1=some p.2/\H p.1=none/\p.1≠X.env.locals/\p.1 ∉ X.fs/\∀ v,p.2.data≠.cell v):Inv (X.inX a pl) pins σ H s :=
 ⟨⟨I.ok.mod,I.ok.kind,I.ok.glob,I.ok.blt,I.ok.above,I.ok.inj,I.ok.has,I.ok.cab,(fun z=>nomatch z),I.ok.frames,I.ok.stk,I.ok.exf,I.ok.bs,I.ok.bsz,I.ok.noex,I.ok.exfs,I.ok.funs,I.ok.frf⟩,I.os,I.bare,I.base,I.loc,I.cell,I.free,I.freeC,fun p h=>by
  rcases List.mem_append.mp h with h | h
  ·rcases List.mem_append.mp h with h | h
   ·exact I.pin p (List.mem_append_left _ h)
   ·exact hp p h
  ·exact I.pin p (List.mem_append_right _ h),I.hok,I.len⟩
theorem Inv.outX (ok:X.Ok) (I:Inv (X.inX a pl) pins σ H s):Inv X pins σ H s :=
 ⟨ok,I.os,I.bare,I.base,I.loc,I.cell,I.free,I.freeC,fun p h=>by
  rcases List.mem_append.mp h with h | h
  ·exact I.pin p (List.mem_append_left _ (List.mem_append_left _ h))
  ·exact I.pin p (List.mem_append_right _ h),I.hok,I.len⟩
theorem UH {M:Model} {A:Around} {E:Value->Shared->Prop} {Q:Unit->Shared->Prop} (I:Inv X pins σ H s) (hex:X.ex=[]) (r:n8 X pins H s.heap a C d fs) (h:∀ s',Inv X pins σ H s'->n8 X pins H s'.heap a C d fs->Q () s'):wpAny M A (setFlight (.ref a) none) Q E s:=by
 obtain ⟨oe,vs,T,e1,e2,e3,e4,e5,e6⟩:=r.obj
 obtain ⟨mA,n1,n2⟩:=r.att
 obtain ⟨od,esd,epd,f1,f2,f3⟩:=id n1
 cases T with
 | none =>
  unfold setFlight
  refine wpAny_bind (wpAny_field e1 e4 (show vs[1]?=some .none from e5) ?_)
  rw [if_neg (by decide)]
  exact wpAny_pure (h s I r)
 | some T =>
  obtain ⟨t1,t2,oT,ts,t3,t4,t5⟩:=e5
  obtain ⟨T1,T2,T3⟩:=e6 T rfl
  refine wpAny_setFlight_none e1 e4 t1 t3 t4 (Array.getElem?_eq_some_iff.mp t5).1 ?_
  have oth:∀ b,b≠T->(s.heap.update T (Obj.mapFields (·.setIfInBounds 3 .none))).get? b=s.heap.get? b:=fun b hb=>Heap.get?_update_other _ _ (Ne.symm hb)
  have self:=Heap.get?_update_self (Obj.mapFields (·.setIfInBounds 3 Value.none)) t3 (Obj.isFreed_of_fields (Obj.data_mapFields t4 _))
  have un:Un (lI X.stack) [T] H H s.heap (s.heap.update T (Obj.mapFields (·.setIfInBounds 3 .none))):=by
   have ne:∀ b,b ∉ [T]->b≠T:=fun b hb z=>hb (by rw [z];exact List.mem_cons_self)
   exact ⟨fun b o e _ _ hc=>(oth b (ne b hc)).trans e,fun b o e _ _ hc=>⟨o.slots,(oth b (ne b hc)).trans e⟩,fun _ _ _ n _=>n,fun b o e hc=>⟨o,(oth b (ne b hc)).trans e⟩,fun _ _ q=>q,fun _ _ _ q=>q,fun _ ps q=>⟨#[],by rw [q];simp⟩⟩
  have hok:eE X.prog X.w H (s.heap.update T (Obj.mapFields (·.setIfInBounds 3 .none))):=fun b o e=>(I.hok b o e).stay (fun c u hc q=>(oth c (by
   rintro rfl
   rcases hc with rfl | hc
   ·rw [T2.2.1] at e;cases e
   ·rw [T2.2.1] at hc;cases hc)).trans q) (fun _ q=>q) fun _ _ q=>q
  have I':Inv X pins σ H { s with heap:=s.heap.update T (Obj.mapFields (·.setIfInBounds 3 .none)) }:=I.call (g':=s.gens) (t':=s.toks) (d':=s.drawn) un hok I.bare fun b hb=>by
   obtain rfl:b=T:=by simpa using hb
   have nc:∀ x c,X.env.cells.lookup x=some c->c≠b:=fun x c e z=>by
    obtain ⟨v,oc,g1,g2⟩:=I.cell x c e
    rw [z,t3] at g1;cases g1;rw [t4] at g2;cases g2
   exact ⟨.inr T1,T2.2.2.1,nc,T2.2.2.2⟩
  refine h _ I' ⟨r.sa,r.na,r.nd,r.ad,⟨oe,vs,some T,(oth a (Ne.symm t2)).trans e1,e2,e3,e4,⟨t1,t2,_,_,self,Obj.data_mapFields t4 _,?_⟩,fun T' e=>by cases e;exact ⟨T1,T2,T3⟩⟩,mA,⟨od,esd,epd,(oth d (Ne.symm T3)).trans f1,f2,f3⟩,n2⟩
  have:=(Array.getElem?_eq_some_iff.mp t5).1
  simp [this]
def HR (od:Obj) (fs:List (Str × V)):Prop:=∃ es ep,∃ mA:Str->Option Value,od.data=.dict es ep/\StrKeys es/\UniqKeys es/\(∀ name,nsFind es name=mA name)/\∀ f,B7 (fs.lookup f) (mA f)
theorem Ki (I:Inv X pins σ H s) (r:n8 X pins H s.heap a C d fs):∃ oe od,oe.cls=.ref C/\oe.dict=some d/\(∃ vs,oe.data=.fields vs)/\HR od fs/\∀ p∈[(a,oe),(d,od)],s.heap.get? p.1=some p.2/\H p.1=none/\p.1≠X.env.locals/\p.1 ∉ X.fs/\∀ v,p.2.data≠.cell v:=by
 obtain ⟨oe,vs,T,e1,e2,e3,e4,e5,e6⟩:=r.obj
 obtain ⟨mA,⟨od,esd,epd,f1,f2,f3,f4,f5⟩,n2⟩:=r.att
 have nofs:∀ b,sY X pins H b->b ∉ X.fs:=fun b n hb=>by
  obtain ⟨_,o,ho,_⟩:=I.ok.funs.mem hb
  rw [n.1] at ho;cases ho
 refine ⟨oe,od,e2,e3,⟨vs,e4⟩,⟨esd,epd,mA,f2,f3,f4,f5,n2⟩,fun p hp=>?_⟩
 rcases List.mem_cons.mp hp with rfl | hp
 ·exact ⟨e1,r.na.2.1,r.na.2.2.1,nofs _ r.na,fun v z=>by rw [e4] at z;cases z⟩
 ·obtain rfl:p=(d,od):=by simpa using hp
  exact ⟨f1,r.nd.2.1,r.nd.2.2.1,nofs _ r.nd,fun v z=>by rw [f2] at z;cases z⟩
def TM (i:Nat) (Cn:Addr) (K:PySem.W.Frag) (tb:sO) (th:Addr->Addr->Addr->List (Str × V)->TS):TS:=fun D σ H=>tb D (fun c dx σ' H'=>∀ C d H1 fs,c=.ref C->dx=some d->H'=upd H1 d (.xd fs)->H1 d=none ->
 PySem.W.subIn K (.ref C) (.ref Cn)=some true/\∀ a,th a C d fs { nx:=fun σ H=>D.nx (σ.set i none) H,rt:=D.rt,bk:=fun σ H=>D.bk (σ.set i none) H,ct:=fun σ H=>D.ct (σ.set i none) H } (σ'.set i (some (.ref a))) H1) σ H
theorem UU {i:Nat} {n cn:Str} {Cn:Addr} {body suite:List Stmt} {b₀:Stmt} {tb:sO} {th:Addr->Addr->Addr->List (Str × V)->TS} {cp hp pos:Pos} (hx:Gy X) (hex:X.ex=[]) (hst:X.stack=X.env :: X.outer) (hf:X.env.frame=some X.env.locals) (hN:X.N.Nodup) (hi:X.N[i]?=some n) (hk:X.env.scope.names.lookup n=some .local)
  (hbody:pB X body tb) (hg:Gl X cn) (hm:X.mg cn=some (.ref Cn)) (hc:Iq X.K Cn) (hh:∀ a C d fs oe od,oe.cls=.ref C->oe.dict=some d->(∃ vs,oe.data=.fields vs)->HR od fs->mL (X.inX a [(a,oe),(d,od)]) (b₀ :: suite) (th a C d fs)) (hdb:(cn == ("__debug__":Str))=false:=by decide) :
  PS X (.Try body [.ExceptHandler (some (.Name cn cp)) (some n) (b₀ :: suite) hp] [] [] pos) (TM i Cn X.K tb th):=by
 intro pins s σ H D I h
 refine wpAny_Try_except (wpAny_mono (hbody pins s σ H D _ I h) (fun f s1 q=>?_) fun e s1 q=>?_)
 ·cases f with
  | next=>exact wpAny_execs_nil q
  | ret v=>exact q
  | brk=>exact q
  | cont=>exact q
 ·obtain ⟨a,C,d,fs,σ',H',rfl,I1,r,q⟩:=q
  obtain ⟨hsub,q⟩:=q C d H' fs rfl rfl rfl r.nd.2.1
  refine P6 I1 hst hf hex r fun s2 eo I2 r2=>?_
  refine wpAny_handleBy_cons (codeAny_handlers_test ?_) (by intro q;cases q)
  obtain ⟨oe,vs,T,e1,e2,e3,e4,e5,e6⟩:=r2.obj
  have I3:Inv (X.inX a []) pins σ' H' s2:=I2.inX fun p hp=>by cases hp
  refine nG (X:=X.inX a []) I3 hg hm ?_ hdb
  refine Fp (K:=X.K) I2.kIn hc e1 e2 hsub ?_
  refine codeAny_handlers_suite_as (UH I2 hex r2 fun s3 I4 r4=>?_)
  obtain ⟨oe,od,o1,o2,o3,o4,o5⟩:=Ki I4 r4
  have I5:Inv (X.inX a [(a,oe),(d,od)]) pins σ' H' s3:=I4.inX o5
  refine qJ (X:=X.inX a [(a,oe),(d,od)]) I5 hN hi (.inl hk) (v:=.ref a) rfl (fun s5 I6=>?_) (.inr hk)
  refine wpAny_mono (hh a C d fs oe od o1 o2 o3 o4 pins s5 _ H' _ I6 (q a)) (fun f s6 q6=>?_) fun _ _ z=>by
   have z':X.xe _ _:=z
   rw [hx] at z';exact z'.elim
  cases f with
  | next =>
   obtain ⟨σ7,H7,I7,q7⟩:=q6
   exact name_goes (I7.outX I.ok) hN hi hk fun s8 I8=>⟨_,H7,I8,q7⟩
  | ret u =>
   obtain ⟨v,σ7,H7,I7,rv,q7⟩:=q6
   exact name_goes (I7.outX I.ok) hN hi hk fun s8 I8=>⟨v,_,H7,I8,rv,q7⟩
  | brk =>
   obtain ⟨σ7,H7,I7,q7⟩:=q6
   exact name_goes (I7.outX I.ok) hN hi hk fun s8 I8=>⟨_,H7,I8,q7⟩
  | cont =>
   obtain ⟨σ7,H7,I7,q7⟩:=q6
   exact name_goes (I7.outX I.ok) hN hi hk fun s8 I8=>⟨_,H7,I8,q7⟩
end
end L2
namespace L2
open PySem PySem.Spec
structure n6 (K:PySem.W.Frag) (C R fI:Addr):Prop extends oY K C R fI where
 ga:PySem.W.findIn K (.ref C) "__getattribute__"=some (some (.builtin "BaseException.__getattribute__"))
 gh:PySem.W.findIn K (.ref C) "__getattr__"=some none
 kl:PySem.W.findIn K (.ref C) "__class__"=some (some (.builtin "object.__class__"))
section
variable {prog:Program} {w:World} {A:Around} {E:Value->Shared->Prop} {h:Heap} {g:Array GenState} {d:Drawn} {t:Nat} {os:OsState} {K:PySem.W.Frag} {a C R fI:Addr} {o:Obj}
theorem vA:ExcAttrFacts "ValueError":=PySem.F.excAttr_ValueError
theorem Jd {M:Model} {A':Around} {E':Value->Shared->Prop} {Q':Option Value->Shared->Prop} {t':Nat} {n:Str} {r:Option Value} (KX:K.In h) (e:PySem.W.findIn K (.ref C) n=some r) (q:Q' r ⟨h,g,d,t',os⟩):wpAny M A' (typeLookup (.ref C) n) Q' E' ⟨h,g,d,t',os⟩:=(PySem.W.looks_findIn KX e).here q
theorem Mq {M:Model} {nameV:Value} {Q:Unit->Shared->Prop} (KX:K.In h) (c:n6 K C R fI) (hx:h.get? a=some o) (hc:o.cls=.ref C) (hq:Q () ⟨h,g,d,t,os⟩):wpAny M A (checkBuiltinCall "BaseException.__getattribute__" ⟨[.ref a,nameV],[]⟩) Q E ⟨h,g,d,t,os⟩:=by
 obtain ⟨nm,qq,N,bs,sn,sub,ab,col,dd,k0,k1,k2,k3,k5,hC⟩:=c.obj
 have hC:=KX _ _ hC
 have hk:builtinKind "BaseException.__getattribute__"=some .slot:=by decide +kernel
 have hsplit:splitId "BaseException.__getattribute__"=some ("BaseException","__getattribute__"):=by decide +kernel
 have hcB:(Value.ref C :: oU R).contains (.type "BaseException")=true:=by rw [List.contains_cons];rfl
 have ha:=F.args_bexc_ga (.ref a) nameV
 simp only [checkBuiltinCall,hk,hsplit]
 refine wpAny_bind ?_
 ·unfold isInstance
  repeat (first | (with_reducible refine wpAny_loadPart_at hx ?_;rw [hc]) | (with_reducible refine wpAny_isSubtype_exc hC ?_;rw [hcB]) | wp_step)
  exact hq
theorem JU {Q:Fin->Shared->Prop} {tk:Tok} (KX:K.In h) (c:n6 K C R fI) (hx:h.get? a=some o) (hc:o.cls=.ref C) (hq:Q (.done (.ret (.ref C))) ⟨h,g,d,t,os⟩) :
  wpAny (model prog w) A (Builtin.«object.__getattribute__» ⟨[.ref a,.str "__class__" tk],[]⟩) Q E ⟨h,g,d,t,os⟩:=by
 obtain ⟨nm,qq,N,bs,sn,sub,ab,col,dd,k0,k1,k2,k3,k5,hC⟩:=c.obj
 have hC:=KX _ _ hC
 have hT5:(⟨h,g,d,t,os⟩:Shared).TypeIs (.builtin "object.__class__") "getset_descriptor":=F.typeOf_object_class
 have f5:=F.typeOf_object_class
 have f6:=F.slot_gs_get.lookup
 have f7:=F.slot_gs_set.lookup
 have hcB:(Value.ref C :: oU R).contains (.type (".".intercalate ("object.__class__".cutAt '.').dropLast))=true:=by
  rw [F.owner_object_class,List.contains_cons];rfl
 repeat (any_goals (first | assumption | (with_reducible refine wpAny_loadPart_at hx ?_;rw [hc]) | with_reducible refine Jd KX c.kl ?_ | wp_step))
 refine codeAny_call_builtin F.slot_gs_get.plain F.entry_gs_get (F.slot_gs_get.check _ _ _ _ _ _ _ _ hT5 (F.args_gs_get _ _ _) ?_)
 repeat (any_goals (first | assumption | (with_reducible refine wpAny_loadPart_at hx ?_;rw [hc]) | (with_reducible refine wpAny_isSubtype_exc hC ?_;rw [hcB]) | wp_step))
 refine ⟨Code.quiet_builtin _ (by decide +kernel),codeAny_builtin F.entry_object_class ?_⟩
 repeat (any_goals (first | assumption | (with_reducible refine wpAny_loadPart_at hx ?_;rw [hc]) | wp_step))
theorem WU {tk:Tok} {fill expr:Bool} {n:Str} {v:Value} {Q:Value->Shared->Prop} (KX:K.In h) (c:n6 K C R fI) (hx:h.get? a=some o) (hc:o.cls=.ref C) (hh:∀ id,v≠.builtin id)
  (hg:∀ {A':Around} {E':Value->Shared->Prop} {Q':Fin->Shared->Prop},Q' (.done (.ret v)) ⟨h,g,d,t,os⟩->wpAny (model prog w) A' (Builtin.«object.__getattribute__» ⟨[.ref a,.str n tk],[]⟩) Q' E' ⟨h,g,d,t,os⟩)
  (hq:Q v ⟨h,g,d,t,os⟩):wpAny (model prog w) A (getAttrBy (.ref a) (.str n tk) fill expr) Q E ⟨h,g,d,t,os⟩:=by
 have f3:=vA.ga.bind (.ref a)
 have hx0:(expr && onTheHeap (Value.builtin "BaseException.__getattribute__"))=false:=by cases expr <;> rfl
 have hx2:(Value.builtin "BaseException.__getattribute__" == Value.builtin "object.__getattribute__")=false:=by decide +kernel
 have hx1:(onTheHeap (Value.ref C) && Value.builtin "BaseException.__getattribute__" == Value.builtin "object.__getattribute__")=false:=by rw [hx2];rfl
 repeat (any_goals (first | assumption | (with_reducible refine wpAny_loadPart_at hx ?_;rw [hc]) | with_reducible refine Jd KX c.ga ?_ | with_reducible refine Jd KX c.gh ?_ | wp_step))
 refine codeAny_call_builtin vA.ga.plain F.entry_bexc_ga (Mq KX c hx hc (hg ?_))
 repeat (any_goals (first | assumption | wp_step))
 cases v <;> first | exact wpAny_pure hq | exact absurd rfl (hh _)
theorem Ey {Q:Option Value->Shared->Prop} (KX:K.In h) (c:n6 K C R fI) (hx:h.get? a=some o) (hc:o.cls=.ref C) (hq:Q (some (.ref C)) ⟨h,g,d,t + 1,os⟩):wpAny (model prog w) A (getAttr? (.ref a) "__class__") Q E ⟨h,g,d,t,os⟩:=by
 unfold getAttr? getAttrBy?
 repeat (any_goals (first | assumption | with_reducible apply WU (t:=t + 1) KX c hx hc (fun _ z=>nomatch z) (fun q=>JU KX c hx hc q) | wp_step))
def Ws (a C:Addr) (h:Heap):Prop:=∃ o,h.get? a=some o/\o.cls=.ref C
theorem AZ (c:n6 K C R fI):PySem.W.KitX K (.ref a) (.ref C) (Ws a C) where
 ty:=fun M h _ ⟨o,h1,h2⟩=>h2 ▸ (PySem.W.Looks.ld h1).andThen .now
 it:=fun M h X _=>by
  obtain ⟨nm,qq,N,bs,sn,sub,ab,col,dd,k0,k1,k2,k3,k5,hC⟩:=c.obj
  intro A' Q' E' s' k q
  unfold isType loadHead
  exact wpAny_bind (wpAny_loadPart (k _ _ (X _ _ hC)) (wpAny_pure q))
 ne:=fun h tp dd its n sl X htp=>by
  obtain ⟨nm,qq,N,bs,sn,sub,ab,col,dd,k0,k1,k2,k3,k5,hC⟩:=c.obj
  refine Bool.eq_false_iff.mpr fun q=>?_
  have e:C=tp:=Value.ref.inj (beq_iff_eq.mp q)
  subst e
  have z:=(X _ _ hC).symm.trans htp
  exact absurd (Value.type.inj (congrArg Obj.cls (Option.some.inj z))) (by decide)
 ca:=fun {prog w A E Q s} X ⟨o,h1,h2⟩ q=>by
  obtain ⟨h,g,d,t,os⟩:=s
  exact Ey X c h1 h2 q
end
end L2
namespace U2
open PySem PySem.Spec L2
abbrev Gu:=Addr->List (Str × U)->SU->aI->Prop
abbrev Wr:=Addr->List (Str × U)->aI->Prop
abbrev oP:=kT->Gu->SU->aI->Prop
abbrev K0:=SU->aI->UK->Gu->Prop
abbrev yD:=List U->aI->UK->Wr->Prop
def hG:U->Option V
 | .non=>some .non
 | .bl b=>some (.bl b)
 | .int i=>some (.int i)
 | .str x=>some (.str x)
 | _=>none
def HZ (fs':List (Str × U)) (fs:List (Str × V)):Prop:=Paired (fun (p:Str × U) (q:Str × V)=>p.1=q.1/\hG p.2=some q.2) fs' fs
def wA (K:PySem.W.Frag) (H:Hp) (M:aI) (E':Gu) (E:XS):Prop:=∀ C fs' fs σ τ H1 M1 d,bE H M H1 M1->RelM K H1 M1->cZ K H1 M1 σ τ->HZ fs' fs->H1 d=none->E' C fs' τ M1->E (.ref C) (some d) σ (upd H1 d (.xd fs))
def VC (K:PySem.W.Frag) (H:Hp) (M:aI) (E':Wr) (E:XK):Prop:=∀ C fs' fs H1 M1 d,bE H M H1 M1->RelM K H1 M1->HZ fs' fs->H1 d=none->E' C fs' M1->E (.ref C) (some d) (upd H1 d (.xd fs))
theorem wA.stp {K:PySem.W.Frag} {H H1:Hp} {M M1:aI} {E':Gu} {E:XS} (c:wA K H M E' E) (st:bE H M H1 M1):wA K H1 M1 E' E:=fun C fs' fs σ τ H2 M2 d s=>c C fs' fs σ τ H2 M2 d (st.trans s)
def PZ (K:PySem.W.Frag) (t:sO) (t':oP):Prop:=∀ (σ:St) (τ:SU) (H:Hp) (M:aI) (D':kT) (E':Gu),cZ K H M σ τ->RelM K H M->t' D' E' τ M->∀ (D:Ends) (E:XS),BE K H M D D'->wA K H M E' E->t D E σ H
def Vy (K:PySem.W.Frag) (t:Qg) (t':K0):Prop:=∀ (σ:St) (τ:SU) (H:Hp) (M:aI) (Q':UK) (E':Gu),cZ K H M σ τ->RelM K H M->t' τ M Q' E'->∀ (Q:VK) (E:XS),cO K H M Q' Q->wA K H M E' E->t σ H Q E
def Tj (D:Dat) (e:Expr) (t':K0):Prop:=∃ t,(∀ X,jU D X->S3 X e t)/\Vy D.K t t'
def yZ (D:Dat) (s:Stmt) (t':oP):Prop:=∃ t,(∀ X,jU D X->BV X s t)/\PZ D.K t t'
def oM (D:Dat) (s:List Stmt) (t':oP):Prop:=∃ t,(∀ X,jU D X->pB X s t)/\PZ D.K t t'
def yJ (K:PySem.W.Frag) (sp:yD):Sp:=fun vs H Q E=>∃ us M Q' E',RelM K H M/\aS K H M us vs/\sp us M Q' E'/\cO K H M Q' Q/\VC K H M E' E
section
variable {D:Dat} {e:Expr} {te:UE} {tx:K0} {st:Stmt} {rest a b:List Stmt} {t u:US} {t' u':oP} {pos:Pos}
def PR (t:US):oP:=fun De _ τ M=>t De τ M
theorem Qq (h:pM D st t):yZ D st (PR t):=let ⟨_,p,s⟩:=h;⟨_,fun X h=>SI h.xe (p X h),fun σ τ H M D' E' rs rm q D E d _=>s σ τ H M D' rs rm q D d⟩
theorem U3 (h:mV D rest t):oM D rest (PR t):=let ⟨_,p,s⟩:=h;⟨_,fun X h=>Q4 h.xe (p X h),fun σ τ H M D' E' rs rm q D E d _=>s σ τ H M D' rs rm q D d⟩
def P4 (t u:oP):oP:=fun De E τ M=>t { De with nx:=u De E } E τ M
theorem F5 (h1:yZ D st t') (h2:oM D rest u'):oM D (st :: rest) (P4 t' u'):=let ⟨_,p,s⟩:=h1;let ⟨_,q,r⟩:=h2;⟨_,fun X h=>MG (p X h) (q X h),fun σ τ H M D' E' rs rm z D E d c =>
 s σ τ H M _ E' rs rm z _ E ⟨fun σ1 τ1 H1 M1 s1 rm1 rs1 q1=>r σ1 τ1 H1 M1 D' E' rs1 rm1 q1 D E (d.stp s1) (c.stp s1),d.rt,d.bk,d.ct⟩ c⟩
theorem Bl (h1:yZ D st t'):oM D [st] t':=let ⟨_,p,s⟩:=h1;⟨_,fun X h=>OR (p X h),s⟩
def Po (c:UT) (t u:oP):oP:=fun De E τ M=>c τ M fun b M1=>if b=true then t De E τ M1 else u De E τ M1
theorem V9 {c:Expr} {tc:UT} (hc:mZ D c tc) (ha:oM D a t') (hb:oM D b u'):yZ D (.If c a b pos) (Po tc t' u'):=by
 obtain ⟨_,p,s⟩:=ha;obtain ⟨_,q,r⟩:=hb;obtain ⟨_,x,y⟩:=hc
 refine ⟨_,fun X h=>Tt h.xe (x X h) (p X h) (q X h),fun σ τ H M D' E' rs rm z D E d c=>y σ τ H M _ rs rm z _ fun b M1 H1 s1 rm1 q1=>?_⟩
 cases b with
 | true=>exact s σ τ H1 M1 D' E' (rs.stp s1) rm1 q1 D E (d.stp s1) (c.stp s1)
 | false=>exact r σ τ H1 M1 D' E' (rs.stp s1) rm1 q1 D E (d.stp s1) (c.stp s1)
def Qe (tx:K0) (i:Nat):oP:=fun De E τ M=>tx τ M (fun u M1=>De.nx (τ.set i (some u)) M1) E
theorem To (i:Nat) {x:Str} {pos':Pos} (hN:D.N.Nodup) (he:Tj D e tx) (hi:D.N[i]?=some x:=by rfl) (hx:Loc D.sc x:=by first | exact Or.inl rfl | exact Or.inr rfl) (hs:∀ env,swapsWith e (some (.Name x pos')) pos.line env=pure false:=by intro _;rfl)
  (hf:D.fn=true\/D.sc.names.lookup x=some .local:=by first | exact .inl rfl | exact .inr rfl):yZ D (.Assign [.Name x pos'] e pos) (Qe tx i):=by
 obtain ⟨_,p,s⟩:=he
 exact ⟨_,fun X h=>RJ (i:=i) (by rw [h.N];exact hN) (by rw [h.N];exact hi) (by rw [h.sc];exact hx) (p X h) (hs _) (by rcases hf with z | z;exact .inl (h.fn z x);exact .inr (by rw [h.sc];exact z)),fun σ τ H M D' E' rs rm z D E d c =>
  s σ τ H M _ E' rs rm z _ E (fun u v M1 H1 s1 rm1 ru q=>d.nx _ _ H1 M1 s1 rm1 ((rs.stp s1).set ru) q) c⟩
structure tO (P:Program) (w:World) (K:PySem.W.Frag) (mg:Str->Option Value) (base:Heap) (j:Nat) (x:Str) (sp:yD) (dus:List U):Prop where
 ex:∃ f fd ps dvs ds,dX P w K mg base (sQ P w) j f fd ps (yJ K sp)/\mg x=some (.ref f)/\PySem.W.keepIn K (.ref f)=true/\Binds K fd ps ds/\Vals dvs ds/\∀ H M,aS K H M dus dvs
abbrev WH (D:Dat):=tO D.prog D.w D.K D.mg D.base
def Ln (sp:yD) (dus:List U) (t:UA):K0:=fun τ M Q E=>t τ M fun us M1=>sp (us++dus) M1 Q fun C fs M2=>E C fs τ M2
theorem R0 {sp:yD} {dus:List U} {j:Nat} {x:Str} {p:Pos} {es:List Expr} {tas:UA} (F:WH D j x sp dus) (ha:mM D (e :: es) tas) (hfn:D.fn=true:=by rfl) (hj:j<=D.k:=by first | exact Nat.le_refl _ | (dsimp only;omega) | omega) (hg:D.sc.names.lookup x=some .globalImplicit:=by rfl) (hdb:(x == ("__debug__":Str))=false:=by decide)
  (he:∀ env,starEach (e :: es) env=(false,eval e env) :: starEach es env:=by intro _;rfl) (hpl:∀ env,(backTo pos (starEach es env)).any (·.1)=false:=by intro _;rfl):Tj D (.Call (.Name x p) (e :: es) [] pos) (Ln sp dus tas):=by
 obtain ⟨f,fd,ps,dvs,ds,F,hm,kp,hb,hd,hr⟩:=F.ex
 obtain ⟨_,q,s⟩:=ha
 refine ⟨PV (yJ D.K sp) dvs _,fun X h=>?_,fun σ τ H M Q' E' rs rm z Q E c cx=>s σ τ H M _ rs rm z _ fun us vs M1 H1 s1 rm1 ru h1 =>
  ⟨us++dus,M1,Q',_,rm1,ru.append (hr _ _),h1,cO.stp c s1,fun C fs' fs H2 M2 d s2 rm2 ra hd q=>cx C fs' fs σ τ H2 M2 d (s1.trans s2) rm2 (rs.stp (s1.trans s2)) ra hd q⟩⟩
 have F':dX X.prog X.w X.K X.mg X.base (sQ X.prog X.w) j f fd ps (yJ D.K sp):=by rw [h.prog,h.w,h.K,h.mg,h.base];exact F
 exact OU h.xe (h.dl hfn).1 F' (h.room.mono hj) (by show X.env.scope.names.lookup x=_;rw [h.sc];exact hg) (by rw [h.mg];exact hm) (by rw [h.K];exact kp) (by rw [h.K];exact hb) hd (q X h) hdb (he _) (hpl _)
theorem Ny {K:PySem.W.Frag} {H:Hp} {M:aI} {u:U} {v v':V} (e:hG u=some v') (r:aY K H M u v):v=v'/\∀ H M,aY K H M u v':=by
 cases u with
 | non=>cases e;exact ⟨r.non,fun _ _=>kE⟩
 | bl b=>cases e;exact ⟨r.bl,fun _ _=>cL⟩
 | int i=>cases e;exact ⟨r.int,fun _ _=>cP⟩
 | str x=>cases e;exact ⟨r.str,fun _ _=>iD⟩
 | _=>cases e
structure O7 (P:Program) (w:World) (K:PySem.W.Frag) (mg:Str->Option Value) (base:Heap) (j:Nat) (cn:Str) (C:Addr) (attr:Str) (cond:V->Prop):Prop where
 ex:∃ R fI fd par,n6 K C R fI/\mg cn=some (.ref C)/\dX P w K mg base j6 j fI fd ["self",par] (oC C attr cond)/\Binds K fd ["self",par] []
def GJ (C:Addr) (attr:Str) (cond:V->Prop) (te:UE):oP:=fun _ E τ M=>te τ M fun u M1=>(∃ v,hG u=some v/\cond v)/\E C [(attr,u)] τ M1
theorem OM {j:Nat} {cn attr:Str} {C:Addr} {cond:V->Prop} {np cpos:Pos} (c:O7 D.prog D.w D.K D.mg D.base j cn C attr cond) (he:bG D e te) (hfn:D.fn=true:=by rfl) (hj:j + 1<=D.k:=by first | exact Nat.le_refl _ | (dsimp only;omega) | omega) (hg:D.sc.names.lookup cn=some .globalImplicit:=by rfl) (hdb:(cn == ("__debug__":Str))=false:=by decide)
  (hs:∀ env,starEach [e] env=[(false,eval e env)]:=by intro _;rfl):yZ D (.Raise (some (.Call (.Name cn np) [e] [] cpos)) none pos) (GJ C attr cond te):=by
 obtain ⟨R,fI,fd,par,cc,hm,F,hb⟩:=c.ex
 obtain ⟨_,p,s⟩:=he
 refine ⟨K8 D.K C attr cond _,fun X h=>?_,fun σ τ H M D' E' rs rm z Q E d cx=>s σ τ H M _ rs rm z _ fun u v M1 H1 s1 rm1 ru ⟨⟨v',e1,e2⟩,q⟩=>?_⟩
 ·have cc':oY X.K C R fI:=by rw [h.K];exact cc.toXCls
  have F':dX X.prog X.w X.K X.mg X.base j6 j fI fd ["self",par] (oC C attr cond):=by rw [h.prog,h.w,h.K,h.mg,h.base];exact F
  have:=LY (pos:=pos) (np:=np) (cpos:=cpos) h.xe (h.dl hfn).1 h.calm cc' F' (h.room.mono hj) (by rw [h.K];exact hb) (by show X.env.scope.names.lookup cn=_;rw [h.sc];exact hg) (by rw [h.mg];exact hm) (p X h) hdb (hs _)
  exact this
 ·obtain ⟨rfl,r⟩:=Ny e1 ru
  exact ⟨e2,fun d hd=>cx C [(attr,u)] [(attr,v)] σ τ H1 M1 d s1 rm1 (rs.stp s1) (.cons ⟨rfl,e1⟩ .nil) hd q⟩
end
section
variable {P:Program} {w:World} {K:PySem.W.Frag} {mg:Str->Option Value} {base:Heap}
theorem Hu {x:Str} {st:Stmt} {f:Addr} {fd:FuncData} {N ps:List Str} {k:Nat} {sp:yD} {t:oP} (F:b9 K x x st f fd) (hm:mg x=some (.ref f)) (S:bB N ps (aF st))
  (bind:∀ (kV doc pm:Value) (an:Option Addr) (cdv ct:Value) (us:List Value),us.length=ps.length->bindArgs (PySem.W.fnOf x x (bC st) (bA st) (aF st) .none kV doc pm an cdv ct) ⟨us,[]⟩=pure (ps.zip us))
  (len:∀ us M Q E,sp us M Q E->us.length=ps.length)
  (h:oM ⟨P,w,K,mg,base,N,aF st,k,true,.none,""⟩ (bA st) t)
  (q:∀ us M Q E,sp us M Q E->t { nx:=fun _ M'=>jD Q .non M',rt:=jD Q } (fun C fs _ M1=>∃ M',Sub M' M1/\E C fs M') (eL N us) M):tO P w K mg base (k + 1) x sp []:=by
 obtain ⟨t0,h1,h2⟩:=h
 refine ⟨f,fd,ps,[],[],F.okX S (fun vs H Q E ⟨us,M,Q',E',_,r,hs,_⟩=>by rw [<- r.length];exact len us M Q' E' hs) (fun cdv A outer s H vs Q E hr ⟨us,M,Q',E',rm,r,hs,c,cx⟩=>?_),hm,F.kp,F.binds bind,.nil,fun H M=>.nil⟩
 refine ⟨t0,h1 _ ⟨rfl,rfl,rfl,rfl,rfl,rfl,rfl,hr,rfl,rfl,fun _ _=>rfl,fun h=>absurd rfl h,fun _=>⟨rfl,rfl,rfl⟩⟩,?_⟩
 refine h2 _ (eL N us) H M _ _ (tG r) rm (q us M Q' E' hs) _ _ ⟨fun σ τ H1 M1 s1 rm1 rs1 q1=>?_,fun u v H1 M1 s1 rm1 ru q1=>jD.ok c s1 rm1 ru q1,fun _ _ _ _ _ _ _ z=>z.elim,fun _ _ _ _ _ _ _ z=>z.elim⟩ fun C fs' fs σ τ H1 M1 d s1 rm1 rs1 ra hd ⟨M',sb,q1⟩=>?_
 ·exact jD.ok c s1 rm1 kE q1
 ·exact cx C fs' fs H1 M' d (s1.trans sb.less) (rm1.sub sb) ra hd q1
end
end U2
namespace U2
open PySem PySem.Spec L2
structure CJ (D:Dat) (a C d:Addr) (fs:List (Str × V)) (X:Cx):Prop where
 prog:X.prog=D.prog
 w:X.w=D.w
 K:X.K=D.K
 mg:X.mg=D.mg
 N:X.N=D.N
 sc:X.env.scope=D.sc
 fn:D.fn=true->∀ x,X.fn x=true
 exc:∃ oe od,(a,oe)∈X.pn/\(d,od)∈X.pn/\oe.cls=.ref C/\oe.dict=some d/\(∃ vs,oe.data=.fields vs)/\HR od fs
def Vn:V->U
 | .non=>.non
 | .bl b=>.bl b
 | .int i=>.int i
 | .str x=>.str x
 | .ref a=>.ref a
 | .ty n=>.ty n
 | _=>.lst []
def wF (fs:List (Str × V)):List (Str × U):=fs.map fun p=>(p.1,Vn p.2)
theorem Ho {u:U} {v:V} (e:hG u=some v):u=Vn v:=by
 cases u <;> first | (cases e;rfl) | cases e
theorem HZ.eq {fs':List (Str × U)} {fs:List (Str × V)} (r:HZ fs' fs):fs'=wF fs:=by
 induction r with
 | nil=>rfl
 | cons h _ ih =>
  rename_i p q _ _ _
  obtain ⟨p1,p2⟩:=p
  obtain ⟨q1,q2⟩:=q
  obtain ⟨h1,h2⟩:=h
  dsimp only at h1 h2
  rw [ih,h1,Ho h2]
  rfl
def Al (D:Dat) (a C:Addr) (fs':List (Str × U)) (e:Expr) (t':UE):Prop:=∃ t,(∀ X d fs,wF fs=fs'->CJ D a C d fs X->PE X e t)/\b6 D.K t t'
def GI (D:Dat) (a C:Addr) (fs':List (Str × U)) (e:List Expr) (t':UA):Prop:=∃ t,(∀ X d fs,wF fs=fs'->CJ D a C d fs X->PA X e t)/\kD D.K t t'
def S7 (D:Dat) (a C:Addr) (fs':List (Str × U)) (s:Stmt) (t':US):Prop:=∃ t,(∀ X d fs,wF fs=fs'->CJ D a C d fs X->PS X s t)/\iY D.K t t'
def Ir (D:Dat) (a C:Addr) (fs':List (Str × U)) (s:List Stmt) (t':US):Prop:=∃ t,(∀ X d fs,wF fs=fs'->CJ D a C d fs X->mL X s t)/\iY D.K t t'
section
variable {D:Dat} {a0 C:Addr} {F:List (Str × U)} {e:Expr} {te:UE} {es:List Expr} {tas:UA} {pos:Pos} {st:Stmt} {sts:List Stmt} {t u:US}
theorem AI (i:Nat) {x:Str} (hN:D.N[i]?=some x:=by rfl) (hv:Gg D.sc x:=by first | exact Or.inl rfl | exact Or.inr (Or.inl rfl) | exact Or.inr (Or.inr rfl)) (hd:(x == ("__debug__":Str))=false:=by decide)
  (hcd:(x == ("__classdict__":Str))=false:=by decide):Al D a0 C F (.Name x pos) (iX i) :=
 ⟨_,fun X _ _ _ h=>nK (by rw [h.N];exact hN) (by rw [h.sc];exact hv) hd hcd,yM i⟩
theorem rC {x:Str} {f:Addr} (hm:D.mg x=some (.ref f)) (hg:D.sc.names.lookup x=some .globalImplicit:=by rfl) (hd:(x == ("__debug__":Str))=false:=by decide):Al D a0 C F (.Name x pos) (uC (.ref f)) :=
 ⟨_,fun X _ _ _ h=>tQ (v:=.ref f) (by show X.env.scope.names.lookup x=_;rw [h.sc];exact hg) (by rw [h.mg];exact hm) rfl hd,GV⟩
theorem WG {x:Str} {n:String} (hm:D.mg x=none) (hv:bootBuiltins x=some (.type n):=by kernel_rfl) (hg:D.sc.names.lookup x=some .globalImplicit:=by rfl) (hn:x≠"__name__":=by decide) (hd:(x == ("__debug__":Str))=false:=by decide):Al D a0 C F (.Name x pos) (uC (.ty n)) :=
 ⟨_,fun X _ _ _ h=>F8 (v:=.ty n) (by show X.env.scope.names.lookup x=_;rw [h.sc];exact hg) (by rw [h.mg];exact hm) hv rfl hn hd,L6⟩
theorem xM:GI D a0 C F [] mR:=⟨_,fun _ _ _ _ h=>xS,GO⟩
theorem fZ (ha:Al D a0 C F e te) (hr:GI D a0 C F es tas) (hs:∀ env,starEach (e :: es) env=(false,eval e env) :: starEach es env:=by intro _;rfl):GI D a0 C F (e :: es) (kC te tas):=let ⟨_,p,s⟩:=ha;let ⟨_,q,r⟩:=hr;⟨_,fun X d fs r h=>pT (p X d fs r h) (q X d fs r h) (hs _),B9 s r⟩
theorem V5 {x1} (h:GI D a0 C F es tas):Al D a0 C F (.Tuple es x1 pos) (oX tas):=let ⟨_,p,s⟩:=h;⟨_,fun X d fs r h=>Le (p X d fs r h),GD s⟩
theorem V6 (own:Bool:=false) (h:GI D a0 C F es tas):Al D a0 C F (.List es pos) (o6 own tas):=let ⟨_,p,s⟩:=h;⟨_,fun X d fs r h=>MS (p X d fs r h),G0 s⟩
theorem Qx (i:Nat) {x:Str} {pos':Pos} (hN:D.N.Nodup) (he:Al D a0 C F e te) (hi:D.N[i]?=some x:=by rfl) (hx:Loc D.sc x:=by first | exact Or.inl rfl | exact Or.inr rfl) (hs:∀ env,swapsWith e (some (.Name x pos')) pos.line env=pure false:=by intro _;rfl)
  (hf:D.fn=true\/D.sc.names.lookup x=some .local:=by first | exact .inl rfl | exact .inr rfl):S7 D a0 C F (.Assign [.Name x pos'] e pos) (bQ te (hName i)):=by
 obtain ⟨_,p,s⟩:=he
 exact ⟨_,fun X d fs r h=>CK (i:=i) (by rw [h.N];exact hN) (by rw [h.N];exact hi) (by rw [h.sc];exact hx) (p X d fs r h) (hs _) (by rcases hf with z | z;exact .inl (h.fn z x);exact .inr (by rw [h.sc];exact z)),uE s (mQ i)⟩
theorem RN (h1:S7 D a0 C F st t) (h2:Ir D a0 C F sts u):Ir D a0 C F (st :: sts) (qP t u):=let ⟨_,p,s⟩:=h1;let ⟨_,q,r⟩:=h2;⟨_,fun X d fs r h=>vG (p X d fs r h) (q X d fs r h),Gp s r⟩
theorem Uv (h1:S7 D a0 C F st t):Ir D a0 C F [st] t:=let ⟨_,p,s⟩:=h1;⟨_,fun X d fs r h=>yN (p X d fs r h),s⟩
def nM:V->Value
 | .ref a=>.ref a
 | .ty n=>.type n
 | _=>.none
def PU (K:PySem.W.Frag) (a C:Addr):List V->Hp->VK->Prop:=fun xs H Q=>(∃ R fI,n6 K C R fI)/\∃ c b,xs=[.ref a,c]/\((nM c≠.none/\PySem.W.kitOne K (.ref C) (nM c)=some b)\/(∃ tp vs,c=.ref tp/\H tp=some (.tup vs)/\(∀ v∈vs,nM v≠.none)/\PySem.W.kitAny K (.ref C) (vs.map nM)=some b))/\Q (.bl b) H
theorem Ba {v:V} {u:Value} (r:RelV v u) (n:nM v≠.none):u=nM v:=by
 cases v <;> first | exact r | exact absurd rfl n
theorem zK:∀ {vs:List V} {us:List Value},Vals vs us->(∀ v∈vs,nM v≠.none)->us=vs.map nM
 | _,_,.nil,_=>rfl
 | _,_,.cons r t,n=>by rw [Ba r (n _ List.mem_cons_self),zK t fun v hv=>n v (List.mem_cons_of_mem _ hv)];rfl
theorem KZ {X:Cx} {a d:Addr} {fs:List (Str × V)} (h:CJ D a C d fs X):gW X (.builtin "isinstance") (PU D.K a C):=by
 intro pins s σ H xs us Q I r ⟨⟨R,fI,cg⟩,c,b,e,hc,q⟩
 subst e
 obtain ⟨u,w',rfl,ru,rw'⟩:=vals2 r
 cases ru
 obtain ⟨oe,od,m1,_,o1,_⟩:=h.exc
 have KX:D.K.In s.heap:=by have:=I.kIn;rw [h.K] at this;exact this
 have XA:Ws a C s.heap:=⟨oe,(I.pin (a,oe) (List.mem_append_left _ m1)).1,o1⟩
 rcases hc with ⟨n,e⟩ | ⟨tp,vs,rfl,m,n,e⟩
 ·have:=Ba rw' n
  subst this
  exact PySem.W.kia_one (AZ cg) KX XA e (fun z=>nomatch z) fun tk=>⟨.bl b,H,I.tok tk,rfl,q⟩
 ·cases rw'
  obtain ⟨_,its,rv,o,g1,g2,g3,k,g4⟩:=(show dB X.prog X.w H s.heap tp (.tup vs) from I.hok tp _ m)
  obtain ⟨oc,odi,odt,osl⟩:=o
  obtain rfl:oc=.type "tuple":=g2
  obtain rfl:odt=.seq its.toArray k:=g4
  rw [zK rv n] at g1
  exact PySem.W.kia_tup (AZ cg) KX XA g1 e (fun z=>nomatch z) fun tk=>⟨.bl b,H,I.tok tk,rfl,q⟩
def q8:U->Value
 | .ref a=>.ref a
 | .ty n=>.type n
 | _=>.none
def Km (K:PySem.W.Frag) (a C:Addr):List U->aI->UK->Prop:=fun us M Q=>(∃ R fI,n6 K C R fI)/\match us with
 | [.ref x,.tup As]=>x=a/\(∀ v∈As,q8 v≠.none)/\∃ b,PySem.W.kitAny K (.ref C) (As.map q8)=some b/\Q (.bl b) M
 | [.ref x,c]=>x=a/\q8 c≠.none/\∃ b,PySem.W.kitOne K (.ref C) (q8 c)=some b/\Q (.bl b) M
 | _=>False
theorem C1 {K:PySem.W.Frag} {H:Hp} {M:aI} {u:U} {v:V} (r:aY K H M u v) (n:q8 u≠.none):nM v=q8 u:=by
 cases u <;> first | (rw [r.ref];rfl) | (rw [r.ty];rfl) | exact absurd rfl n
theorem zR {K:PySem.W.Frag} {H:Hp} {M:aI}:∀ {us:List U} {vs:List V},aS K H M us vs->(∀ v∈us,q8 v≠.none)->vs.map nM=us.map q8/\∀ v∈vs,nM v≠.none
 | [],vs,r,_=>by simp only [aS] at r;subst r;exact ⟨rfl,fun v z=>nomatch z⟩
 | u :: us,vs,r,n=>by
  simp only [aS] at r
  obtain ⟨v,vs',rfl,r1,r2⟩:=r
  obtain ⟨e1,e2⟩:=zR r2 fun v hv=>n v (List.mem_cons_of_mem _ hv)
  have e:=C1 r1 (n u List.mem_cons_self)
  refine ⟨by rw [List.map_cons,List.map_cons,e,e1],fun x hx=>?_⟩
  rcases List.mem_cons.mp hx with rfl | hx
  ·rw [e];exact n u List.mem_cons_self
  ·exact e2 x hx
theorem Ph {K:PySem.W.Frag} {a:Addr}:qU K (PU K a C) (Km K a C):=fun xs us H M Q' rm rus h Q c=>by
 obtain ⟨cg,h⟩:=h
 refine ⟨cg,?_⟩
 split at h
 ·rename_i x As
  obtain ⟨rfl,n,b,e,q⟩:=h
  obtain ⟨v,z,rfl,a1,a2⟩:=rus.two
  cases a1.ref
  simp only [aY] at a2
  obtain ⟨tp,vs,rfl,m,r⟩:=a2
  obtain ⟨e1,e2⟩:=zR r n
  exact ⟨_,b,rfl,.inr ⟨tp,vs,rfl,m.2,e2,by rw [e1];exact e⟩,c.here rm cL q⟩
 ·rename_i x c' _
  obtain ⟨rfl,n,b,e,q⟩:=h
  obtain ⟨v,z,rfl,a1,a2⟩:=rus.two
  cases a1.ref
  have e1:=C1 a2 n
  exact ⟨_,b,rfl,.inl ⟨by rw [e1];exact n,by rw [e1];exact e⟩,c.here rm cL q⟩
 ·exact h.elim
theorem JI {x:Str} {p:Pos} (hx:x="isinstance") (hm:D.mg x=none) (ha:GI D a0 C F (e :: es) tas) (hg:D.sc.names.lookup x=some .globalImplicit:=by rfl)
  (he:∀ env,starEach (e :: es) env=(false,eval e env) :: starEach es env:=by intro _;rfl) (hpl:∀ env,(backTo pos (starEach es env)).any (·.1)=false:=by intro _;rfl):Al D a0 C F (.Call (.Name x p) (e :: es) [] pos) (pO (Km D.K a0 C) tas):=by
 subst hx
 obtain ⟨_,q,s⟩:=ha
 exact ⟨_,fun X d fs r h=>Bt (KZ h) (by show X.env.scope.names.lookup _=_;rw [h.sc];exact hg) (by rw [h.mg];exact hm) (by kernel_rfl) (q X d fs r h) (by decide) (by decide) (he _) (hpl _),BQ Ph s⟩
def TR (i:Nat) (Cn:Addr) (K:PySem.W.Frag) (tb:oP) (th:Addr->Addr->List (Str × U)->US):US:=fun De τ M=>tb De (fun C fs τ' M'=>PySem.W.subIn K (.ref C) (.ref Cn)=some true /\
 ∀ a,th a C fs { nx:=fun τ M=>De.nx (τ.set i none) M,rt:=De.rt,bk:=fun τ M=>De.bk (τ.set i none) M,ct:=fun τ M=>De.ct (τ.set i none) M } (τ'.set i (some (.ref a))) M') τ M
theorem cZ.setNone {K:PySem.W.Frag} {H:Hp} {M:aI} {σ:St} {τ:SU} {i:Nat} (r:cZ K H M σ τ):cZ K H M (σ.set i none) (τ.set i none):=by
 refine ⟨by simp [r.1],fun j w e=>?_⟩
 rw [List.getElem?_set] at e ⊢
 split at e
 ·split at e <;> cases e
 ·rename_i hj
  rw [if_neg hj]
  exact r.2 j w e
theorem UN (i:Nat) {n cn:Str} {Cn:Addr} {body suite:List Stmt} {b₀:Stmt} {tb:oP} {th:Addr->Addr->List (Str × U)->US} {cp hp:Pos} (hN:D.N.Nodup) (hm:D.mg cn=some (.ref Cn)) (hc:Iq D.K Cn) (hbody:oM D body tb) (hh:∀ a C fs,Ir D a C fs (b₀ :: suite) (th a C fs))
  (hi:D.N[i]?=some n:=by rfl) (hk:D.sc.names.lookup n=some .local:=by rfl) (hg:D.sc.names.lookup cn=some .globalImplicit:=by rfl) (hfn:D.fn=true:=by rfl) (hdb:(cn == ("__debug__":Str))=false:=by decide) :
  pM D (.Try body [.ExceptHandler (some (.Name cn cp)) (some n) (b₀ :: suite) hp] [] [] pos) (TR i Cn D.K tb th):=by
 obtain ⟨t0,p,s⟩:=hbody
 refine ⟨TM i Cn D.K t0 (fun a C d fs=>(hh a C (wF fs)).choose),fun X h=>?_,fun σ τ H M D' rs rm z De d=>s σ τ H M D' _ rs rm z De _ d ?_⟩
 ·have hd:=h.dl hfn
  have:=UU (i:=i) (b₀:=b₀) (suite:=suite) (pos:=pos) (hp:=hp) (cp:=cp) (th:=fun a C d fs=>(hh a C (wF fs)).choose) h.xe hd.1 hd.2.1 hd.2.2 (by rw [h.N];exact hN) (by rw [h.N];exact hi) (by rw [h.sc];exact hk) (p X h) (by show X.env.scope.names.lookup cn=_;rw [h.sc];exact hg) (by rw [h.mg];exact hm) (by rw [h.K];exact hc) (fun a C d fs oe od o1 o2 o3 o4=>?_) hdb
  ·rw [h.K] at this
   exact this
  ·refine (hh a C (wF fs)).choose_spec.1 _ d fs rfl ⟨h.prog,h.w,h.K,h.mg,h.N,h.sc,h.fn,oe,od,?_,?_,o1,o2,o3,o4⟩
   ·exact List.mem_append_right _ List.mem_cons_self
   ·exact List.mem_append_right _ (List.mem_cons_of_mem _ List.mem_cons_self)
 ·intro C fs' fs σ1 τ1 H1 M1 d1 s1 rm1 rs1 ra TK ⟨q1,q2⟩ C' d' H' fsx e1 e2 e3 e4
  cases e1;cases e2
  have e5:fsx=fs:=by
   have:=congrFun e3 d1
   rw [b8,b8] at this
   cases this;rfl
  have e6:H'=H1:=by
   funext b
   by_cases hb:b=d1
   ·rw [hb,TK,e4]
   ·have:=congrFun e3 b
    rw [bD hb,bD hb] at this
    exact this.symm
  subst e5;subst e6
  refine ⟨q1,fun a=>?_⟩
  have q3:=q2 a
  rw [ra.eq] at q3
  refine (hh a C (wF fsx)).choose_spec.2 _ _ H' M1 _ (rs1.set rN) rm1 q3 _ ⟨fun σ2 τ2 H2 M2 s2 rm2 rs2 q=>?_,fun u v H2 M2 s2 rm2 ru q=>?_,fun σ2 τ2 H2 M2 s2 rm2 rs2 q=>?_,fun σ2 τ2 H2 M2 s2 rm2 rs2 q=>?_⟩
  ·exact d.nx _ _ H2 M2 (s1.trans s2) rm2 rs2.setNone q
  ·exact d.rt u v H2 M2 (s1.trans s2) rm2 ru q
  ·exact d.bk _ _ H2 M2 (s1.trans s2) rm2 rs2.setNone q
  ·exact d.ct _ _ H2 M2 (s1.trans s2) rm2 rs2.setNone q
end
end U2
namespace K86
open PySem L2 U2
section
variable {P:Program} {w:World} {K:PySem.W.Frag} {mg:Str->Option Value} {base:Heap} {f d d2 fl:Addr} {fd:FuncData}
theorem tX:∀ (t:Tr) (p:List Nat) (a:Tr) (q:List Nat),t.at p=some a->(q++p,a)∈cF q t
 | .num n,[],a,q,h=>by rw [cH] at h;cases h;simp [cF]
 | .name n,[],a,q,h=>by rw [cH] at h;cases h;simp [cF]
 | .turn c,[],a,q,h=>by rw [cH] at h;cases h;simp [cF]
 | .two _ c d,[],a,q,h=>by rw [cH] at h;cases h;simp [cF]
 | .turn c,0 :: r,a,q,h=>by
  have:=tX c r a (q++[0]) h
  simp only [cF,List.mem_cons]
  right;simpa using this
 | .two _ c d,0 :: r,a,q,h=>by
  have:=tX c r a (q++[0]) h
  simp only [cF,List.mem_cons,List.mem_append]
  right;left;simpa using this
 | .two _ c d,1 :: r,a,q,h=>by
  have:=tX d r a (q++[1]) h
  simp only [cF,List.mem_cons,List.mem_append]
  right;right;simpa using this
 | .num _,_ :: _,a,q,h=>by simp [Tr.at] at h
 | .name _,_ :: _,a,q,h=>by simp [Tr.at] at h
 | .turn c,(k + 1) :: r,a,q,h=>by simp [Tr.at] at h
 | .two _ c d,(k + 2) :: r,a,q,h=>by simp [Tr.at] at h
theorem U4 {t a b:Tr} {p:List Nat} {o:Wo} (ht:t.at p=some a) (hc:o.chg a=some b) (hok:lA (bZ t p b)=true):(o,p,bZ t p b)∈eM t:=by
 refine List.mem_filter.mpr ⟨?_,hok⟩
 unfold pA
 refine List.mem_flatMap.mpr ⟨(p,a),?_,?_⟩
 ·have:=tX t p a [] ht
  simpa using this
 ·unfold j5
  refine List.mem_filterMap.mpr ⟨o,by cases o <;> simp [Gx],?_⟩
  simp only [hc];rfl
theorem VQ {t:Tr} {e:Wo × List Nat × Tr} (h:e∈eM t):∃ a b,t.at e.2.1=some a/\e.1.chg a=some b/\e.2.2=bZ t e.2.1 b/\lA (bZ t e.2.1 b)=true:=by
 obtain ⟨he,hok⟩:=List.mem_filter.mp h
 unfold pA at he
 obtain ⟨q,hq,he⟩:=List.mem_flatMap.mp he
 have hat:=oF t t [] (cH t) q hq
 unfold j5 at he
 obtain ⟨o,_,ho⟩:=List.mem_filterMap.mp he
 cases hc:o.chg q.2 with
 | none=>rw [hc] at ho;cases ho
 | some x =>
  rw [hc] at ho
  cases ho
  exact ⟨q.2,x,hat,hc,rfl,hok⟩
def dat:Tr->PyData
 | .num n=>.tuple [.str "num",.int n]
 | .name x=>.tuple [.str "name",.str x]
 | .turn a=>.tuple [.str "turn",dat a]
 | .two o a b=>.tuple [.str o.word,dat a,dat b]
theorem uP:∀ t:Tr,toD t.toU=some (dat t)
 | .num n=>by simp [Tr.toU,toD,gA,dat]
 | .name x=>by simp [Tr.toU,toD,gA,dat]
 | .turn a=>by simp [Tr.toU,toD,gA,dat,uP a]
 | .two o a b=>by simp [Tr.toU,toD,gA,dat,uP a,uP b]
theorem Ss {x:Str} (h:isName (.str x)=true):PyData.strOk x=true:=by
 unfold PyData.strOk
 rw [<- Array.all_toList,List.all_eq_true]
 intro c hc
 simp only [isName,Bool.and_eq_true,decide_eq_true_eq] at h
 have:=List.all_eq_true.mp h.2 c hc
 have h2:c∈Ab.cps.toList:=by
  have h3:=this
  unfold isLetter at h3
  rw [PySem.StrLaws.found_one] at h3
  exact of_decide_eq_true h3
 have hall:Ab.cps.toList.all (fun c=>decide (c < 1114112))=true:=by decide +kernel
 exact List.all_eq_true.mp hall c h2
theorem uM:∀ t:Tr,t.good->(dat t).canLay0=true
 | .num n,_=>by simp only [dat,PyData.canLay0,PyData.canLayAll0];decide +kernel
 | .name x,h=>by
  have:=Ss h
  simp only [dat,PyData.canLay0,PyData.canLayAll0,this];decide +kernel
 | .turn a,h=>by simp only [dat,PyData.canLay0,PyData.canLayAll0,uM a h];decide +kernel
 | .two o a b,h=>by
  have:PyData.strOk o.word=true:=by cases o <;> decide +kernel
  simp only [dat,PyData.canLay0,PyData.canLayAll0,uM a h.1,uM b h.2,this];decide
theorem oV:∀ t:Tr,(dat t).depth<=t.dep
 | .num n=>by simp [dat,PyData.depth,PyData.depthAll,Tr.dep]
 | .name x=>by simp [dat,PyData.depth,PyData.depthAll,Tr.dep]
 | .turn a=>by have:=oV a;simp only [dat,PyData.depth,PyData.depthAll,Tr.dep];omega
 | .two o a b=>by have:=oV a;have:=oV b;simp only [dat,PyData.depth,PyData.depthAll,Tr.dep];omega
theorem NW (M:aI) (t:Tr):q9 M t.toU=some (dat t):=by
 have:q9 M t.toU=toD t.toU:=by cases t <;> rfl
 rw [this,uP]
theorem RD {t:Tr} {M:aI} {Q:UK} (h:t.good) (hd:t.dep<=60) (q:Q (.bl false) M):jX true t.toU t.toU M Q :=
 ne_self (by cases t <;> rfl) (NW M t) (uM t h) (by have:=oV t;omega) q
def uX (e:Wo × List Nat × Tr):PyData:=.tuple [.str e.1.word,xF e.2.1]
theorem M9 (e:Wo × List Nat × Tr):toD (pR e)=some (uX e):=by
 simp only [pR,uX,toD,gA,MZ];rfl
theorem My (e:Wo × List Nat × Tr):(uX e).canLay0=true:=by
 have:(PyData.str e.1.word).canLay0=true:=by cases e.1 <;> decide +kernel
 simp only [uX,PyData.canLay0,PyData.canLayAll0,LS] at this ⊢
 first | rfl | simpa using this
theorem Oi {t:Tr} (hs:t.size<=900):∀ e∈eM t,e.2.1.length<=1000:=by
 intro e he
 have he:=(List.mem_filter.mp he).1
 unfold pA at he
 obtain ⟨q,hq,he⟩:=List.mem_flatMap.mp he
 have hat:=oF t t [] (cH t) q hq
 unfold j5 at he
 obtain ⟨o,_,ho⟩:=List.mem_filterMap.mp he
 cases hc:o.chg q.2 with
 | none=>rw [hc] at ho;cases ho
 | some x =>
  rw [hc] at ho
  cases ho
  have:=lS t q.1 q.2 hat
  show q.1.length<=1000
  omega
theorem TH {t:Tr} (hs:t.size<=900):(eM t).length<=5400:=by
 have hAl:(pA t).length<=6 * t.size:=by unfold pA;have:=Ck t (cF [] t);rw [pS] at this;exact this
 have:(eM t).length<=(pA t).length:=List.length_filter_le _ _
 omega
def rY (b:Tr):U->Option Tr
 | .int k=>if 0<=k then b.parts[k.toNat]? else none
 | _=>none
def jB:Tr->List U->Bool
 | _,[]=>true
 | t,u :: r=>match rY t u with
  | some c=>jB c r
  | none=>false
def nZ:U->Nat
 | .int k=>k.toNat
 | _=>0
def tM (u:U):Prop:=(∃ k,u=.int k)\/∃ b,u=.bl b
def nN (u:U):Prop:=u=.non\/(∃ k,u=.int k)\/(∃ x:Str,u=.str x/\x.length<=1000)\/∃ us,u=.lst us
theorem Rg {t c:Tr} {k:Nat} {r:List Nat} (h:t.parts[k]?=some c):t.at (k :: r)=c.at r:=by
 cases t with
 | num n=>simp [Tr.parts] at h
 | name x=>simp [Tr.parts] at h
 | turn a=>match k with
  | 0=>simp [Tr.parts] at h;subst h;simp [Tr.at]
  | k + 1=>simp [Tr.parts] at h
 | two o a b=>match k with
  | 0=>simp [Tr.parts] at h;subst h;simp [Tr.at]
  | 1=>simp [Tr.parts] at h;subst h;simp [Tr.at]
  | k + 2=>simp [Tr.parts] at h
theorem yL:∀ {ws:List U} {t:Tr},jB t ws=true->∃ a,t.at (ws.map nZ)=some a/\U.tup ws=bI (ws.map nZ)
 | [],t,_=>⟨t,cH t,rfl⟩
 | u :: ws,t,h=>by
  unfold jB at h
  cases u with
  | int k =>
   simp only [rY] at h
   by_cases hk:0<=k
   ·rw [if_pos hk] at h
    cases e:t.parts[k.toNat]? with
    | none=>rw [e] at h;cases h
    | some c =>
     rw [e] at h
     obtain ⟨a,h1,h2⟩:=yL (ws:=ws) h
     refine ⟨a,by rw [List.map_cons];show t.at (k.toNat :: _)=_;rw [Rg e];exact h1,?_⟩
     have h2':ws=(ws.map nZ).map fun (n:Nat)=>U.int (n:Int):=by
      unfold bI at h2;injection h2
     unfold bI
     rw [List.map_cons,List.map_cons,<- h2']
     have:U.int ((nZ (.int k):Nat):Int)=U.int k:=by show U.int ((k.toNat:Nat):Int)=_;rw [Int.toNat_of_nonneg hk]
     rw [this]
   ·rw [if_neg hk] at h;cases h
  | _=>simp only [rY] at h;cases h
theorem GQ:∀ {p:List Nat} {t a:Tr},t.at p=some a->jB t (p.map fun (n:Nat)=>U.int (n:Int))=true
 | [],_,_,_=>rfl
 | k :: p,t,a,h=>by
  have key:∃ c,t.parts[k]?=some c/\c.at p=some a:=by
   cases t with
   | num n=>simp [Tr.at] at h
   | name x=>simp [Tr.at] at h
   | turn b=>match k,h with
    | 0,h=>exact ⟨b,rfl,by simpa [Tr.at] using h⟩
    | k + 1,h=>simp [Tr.at] at h
   | two o b c=>match k,h with
    | 0,h=>exact ⟨b,rfl,by simpa [Tr.at] using h⟩
    | 1,h=>exact ⟨c,rfl,by simpa [Tr.at] using h⟩
    | k + 2,h=>simp [Tr.at] at h
  obtain ⟨c,h1,h2⟩:=key
  rw [List.map_cons]
  have e:rY t (.int (k:Int))=some c:=by simp only [rY,if_pos (Int.natCast_nonneg k),Int.toNat_natCast,h1]
  unfold jB
  rw [e]
  exact GQ h2
theorem Ah:∀ {ws:List U} {t:Tr},jB t ws=true->∀ u∈ws,∃ k,u=.int k
 | [],_,_,_,h=>nomatch h
 | u :: ws,t,h,x,hx=>by
  unfold jB at h
  cases u with
  | int k =>
   rcases List.mem_cons.mp hx with rfl | hx
   ·exact ⟨k,rfl⟩
   ·cases e:rY t (.int k) with
    | none=>rw [e] at h;cases h
    | some c=>rw [e] at h;exact Ah (t:=c) h x hx
  | _=>simp only [rY] at h;cases h
theorem Lm (b:Tr):∃ z r bb,b.toU=.tup (.str z :: r)/\(dC eJ z).isSome=bb/\r.length<=1000/\(if bb=true then r else [])=b.parts.map Tr.toU/\b.parts.length<=2:=by
 cases b with
 | num n=>exact ⟨"num",_,false,rfl,by decide +kernel,by simp,rfl,by simp [Tr.parts]⟩
 | name x=>exact ⟨"name",_,false,rfl,by decide +kernel,by simp,rfl,by simp [Tr.parts]⟩
 | turn a=>exact ⟨"turn",[a.toU],true,rfl,by decide +kernel,by simp,rfl,by simp [Tr.parts]⟩
 | two o a b=>exact ⟨o.word,[a.toU,b.toU],true,rfl,by cases o <;> decide +kernel,by simp,rfl,by simp [Tr.parts]⟩
def B0:dA:=fun us M Q=>∃ (t:Tr) (v:U),us=[t.toU,v]/\((nN v/\Q (.bl false) M)\/∃ ws,v=.tup ws/\(∀ x∈ws,tM x)/\Q (.bl (jB t ws)) M)
theorem Si {u:U} (h:tM u):GA u:=by rcases h with ⟨k,rfl⟩ | ⟨b,rfl⟩ <;> trivial
local macro_rules | `(tactic| simp! only [$xs,*] $[$l]?) => `(tactic| simp only [$xs,*, Bool.false_eq_true, Bool.not_false, Bool.not_true, List.append_nil, List.cons_append, List.getElem?_cons_succ, List.getElem?_cons_zero, List.length_cons, List.length_nil, List.map_cons, List.map_nil, List.nil_append, List.replicate, List.set_cons_succ, List.set_cons_zero, Nat.add_sub_cancel, Nat.reduceAdd, Nat.reduceLeDiff, Nat.reduceSub, Nat.sub_self, Option.getD_some, Option.some.injEq, and_true, CT, Cw, at2, A5, qQ, A1, qO, mH, mD, mU, rM, qF, qN, j1, zT, Ac, Ae, CG, dR, decide_false, decide_true, pU, pH, exists_eq_left', if_false, if_true, sV, gD, cX, cW, dG, cY, dF, cR, eP, eV, fP, eS, fM, dZ, eX, eY, fU, eQ, fN, d9, fY, fS, gP, fR, gQ, eU, e8, eZ, fX, eW, fW, dY, fV, fT, gR, fQ, gO, e7, d7, d8, eT, eD, eR, dQ, items, gC, iU, oJ, iQ, o8, tD, kB, bU, aX, reduceCtorEq, eL, LR, true_and, mW, lZ, rR, fD, uW, rV, uC, pO, nB, mO, j4, kC, nF, tJ, u7, uI, nX, xI, sT, pD, m4, oQ, oB, kG, o6, rE, tB, vO, mR, jO, qX, rH, m8, fC, xK, v7, m7, vS, nE, qY, rD, lB, rL, oX, wJ, iX, vY, m9, lC, kY, lF, j3, kZ, kX] $[$l]?)
theorem Fg (F:b9 K "is_place" "is_place" jN f fd) (hm:mg "is_place"=some (.ref f)) (aP:mg "isinstance"=none) (bN:mg "tuple"=none) (bT:mg "len"=none) (qV:Callee P w K mg base 1 "is_whole" vI []) (uA:Callee P w K mg base 2 "parts" lY []):Callee P w K mg base 3 "is_place" B0 []:=by
 refine bL F hm mG (r0 fun _ _ _ _ _ _ _ _=>rfl) (aH (bY (iG (eK (cQ hJ aP (aA (uv 1) (aA (iC (n:="tuple") bN) aB)))))
 (aJ (aZ mN))
 bH)
 (aH (bF 2 mG.nd (uv 0))
 (aH (gK (fB (uv 1)) (bX (k:=1000) 3 mG.nd)
 (aH (bY (iJ.pt (jH (iG (eK (aV qV (aA (uv 3) aB)))) (j8 (iG (Qd vB xC aK (uv 3) (cQ hX bT (aA (aV uA (aA (uv 2) aB)) aB)))))))
 (aJ (aZ mN))
 bH)
 (aJ (bF 2 mG.nd (aQ (aV uA (aA (uv 2) aB)) (uv 3))))))
 (aJ (aZ mN))))) ?_
 rintro us M Q ⟨t,v,rfl,⟨nt,q⟩ | ⟨p,rfl,hp,q⟩⟩
 refine ⟨rfl,?_⟩
 ·refine aU fun V hV=>?_
  refine cG fun A B hA hB=>?_
  rcases nt with rfl | ⟨k,rfl⟩ | ⟨x,rfl,_⟩ | ⟨us,rfl⟩ <;>
  ·simp! only [aE,aE,aD]
   subst hA
   simp! only [cE,aE,aD]
   exact aO q
 refine aU fun V hV=>?_
 refine cG fun A B hA hB=>?_
 simp! only [aE,aE,aD]
 subst hB
 simp only [b7]
 subst hV
 refine aU fun V hV=>?_
 simp! only [bQ,hName,aE,aD]
 subst hV
 refine aU fun V hV=>?_
 refine gY (S:=⟨none,p⟩) (M1:=M) (fun R r=>by simp! only [aE,aD];exact r)
  (fun i τ Mi=>∃ (b:Tr) (z2:Option U),jB t p=jB b (p.drop i)/\τ=[some t.toU,some (.tup p),some b.toU,z2]/\Mi=M) ⟨t,none,by rw [List.drop_zero],rfl,rfl⟩ nk ?_ ?_
 ·rintro i u τ Mi e ⟨b,z2,hb,rfl,rfl⟩
  have e':p[i]?=some u:=e
  have hi:=(List.getElem?_eq_some_iff.mp e').1
  have hd:p.drop i=u :: p.drop (i + 1):=by
   rw [List.drop_eq_getElem_cons hi,(List.getElem?_eq_some_iff.mp e').2]
  rw [hd] at hb
  have hu:=hp u (List.mem_of_getElem? e')
  obtain ⟨z,r,bb,hz,hsg,hl1,hpt,hl2⟩:=Lm b
  simp! only [hName,aE,aD]
  refine aU fun V2 hV2=>?_
  refine cG fun A B hA hB=>?_
  have fail:rY b u=none->A Mi:=fun hn=>by
   subst hA
   simp! only [cE,aE,aD]
   have:jB t p=false:=by rw [hb];unfold jB;rw [hn]
   rw [this] at q
   exact aO q
  simp! only [aE,aD]
  refine ⟨u,rfl,Si hu,?_⟩
  rcases hu with ⟨k,rfl⟩ | ⟨c,rfl⟩
  ·simp! only [aE,aD]
   have key:(0<=k/\k < (b.parts.length:Int))\/rY b (.int k)=none:=by
    by_cases h0:0<=k
    ·by_cases h1:k < (b.parts.length:Int)
     ·exact .inl ⟨h0,h1⟩
     ·refine .inr ?_
      simp only [rY,if_pos h0]
      exact List.getElem?_eq_none (by omega)
    ·exact .inr (by simp only [rY,if_neg h0])
   by_cases h0:0<=k
   ·simp! only [decide_eq_true h0,aE,aD]
    refine ⟨z,r,bb,by rw [hz],hsg,hl1,?_⟩
    rw [hpt]
    simp! only [List.length_map,aE,aD]
    by_cases h1:k < (b.parts.length:Int)
    ·simp! only [decide_eq_true h1,aE,aD]
     subst hB
     simp only [b7]
     subst hV2
     obtain ⟨c,hc⟩:∃ c,b.parts[k.toNat]?=some c:=⟨_,List.getElem?_eq_getElem (by omega)⟩
     have hat:eF (b.parts.map Tr.toU) k=some c.toU:=by
      have:=eC (j:=k.toNat) (v:=c.toU) (xs:=b.parts.map Tr.toU) (by rw [List.getElem?_map,hc];rfl)
      rw [Int.toNat_of_nonneg h0] at this
      exact this
     simp! only [bQ,hName,aE,aD]
     refine ⟨z,r,bb,by rw [hz],hsg,hl1,?_⟩
     rw [hpt]
     simp! only [hat,aE,aD]
     refine ⟨c,_,?_,rfl⟩
     rw [hb]
     conv=>lhs;unfold jB
     simp only [rY,if_pos h0,hc]
    ·simp! only [decide_eq_false h1,aE,aD]
     exact fail (key.resolve_left fun z=>h1 z.2)
   ·simp! only [decide_eq_false h0,aE,aD]
    exact fail (key.resolve_left fun z=>h0 z.1)
  ·simp! only [aE,aD]
   exact fail rfl
 ·rintro τ Mi ⟨b,z2,hb,rfl,rfl⟩
  subst hV
  simp! only [cE,aE,aD]
  have:jB t p=true:=by rw [hb];show jB b (p.drop p.length)=true;rw [List.drop_length];rfl
  rw [this] at q
  exact aO q
def C6 (x:Str):Option Wo:=Gx.find? fun o=>decide (o.word=x)
theorem N2 (o:Wo):C6 o.word=some o:=by cases o <;> kernel_rfl
theorem CW {x:Str} {o:Wo} (h:C6 x=some o):o.word=x:=by
 have:=List.find?_some h
 exact of_decide_eq_true this
theorem RO (x:Str):(sU.map U.str).any (fun u=>nP u (.str x))=(C6 x).isSome:=by
 unfold sU C6
 rw [List.map_map,List.any_map,List.isSome_find?]
 congr 1
theorem O2:(sU.map U.str).any (fun u=>nP u .non)=false:=by decide +kernel
def jT (t:Tr) (x:Str) (ws:List U):Option Tr:=if jB t ws=true then (C6 x).bind fun o=>(t.at (ws.map nZ)).bind fun a=>(o.chg a).bind fun b=>if lA (bZ t (ws.map nZ) b)=true then some (bZ t (ws.map nZ) b) else none else none
def cT (t:Tr):U->Option Tr
 | .tup [.str x,.tup ws]=>jT t x ws
 | _=>none
def Jg (u:U):Prop:=nN u\/(∃ us,u=.tup us/\us.length≠2/\us.length<=1000)\/∃ x y,u=.tup [x,y]/\(x=.non\/∃ z,x=.str z)/\(nN y\/∃ ws,y=.tup ws/\∀ x∈ws,tM x)
def Gf:dA:=fun us M Q=>∃ (t:Tr) (u:U),us=[t.toU,u]/\Jg u/\t.good/\t.size<=900/\Q (tE (cT t u)) M
theorem B4 {t:Tr} {us:List U} (h:us.length≠2):cT t (.tup us)=none:=by
 match us,h with
 | [],_=>rfl
 | [_],_=>unfold cT;split <;> first | rfl | (rename_i e;cases e)
 | [_,_],h=>exact absurd rfl h
 | _ :: _ :: _ :: _,_=>unfold cT;split <;> first | rfl | (rename_i e;cases e)
theorem GC {t:Tr} {u:U} (h:nN u):cT t u=none:=by
 rcases h with rfl | ⟨k,rfl⟩ | ⟨x,rfl,_⟩ | ⟨us,rfl⟩ <;> rfl
theorem Bv {t:Tr} {x y:U} (h:nN y):cT t (.tup [x,y])=none:=by
 rcases h with rfl | ⟨k,rfl⟩ | ⟨z,rfl,_⟩ | ⟨us,rfl⟩ <;> (unfold cT;split <;> first | rfl | (rename_i e;cases e))
theorem IT {dW:Addr} (F:b9 K "come_by" "come_by" kO f fd) (hm:mg "come_by"=some (.ref f)) (aP:mg "isinstance"=none) (bN:mg "tuple"=none) (bT:mg "len"=none) (yS:KT K dW (sU.map V.str)) (yX:mg "WORDS"=some (.ref dW)) (Jh:Callee P w K mg base 3 "is_place" B0 []) (ME:Callee P w K mg base 2 "changed" Ag []) (Ni:Callee P w K mg base 3 "tree_at" AQ []) (PH:Callee P w K mg base 3 "put_at" QB []) (Ml:Callee P w K mg base 5 "is_tree" Bd []):Callee P w K mg base 6 "come_by" Gf []:=by
 refine bL F hm qI (r0 fun _ _ _ _ _ _ _ _=>rfl) (aH (bY (iJ.pt (jH (iG (eK (cQ hJ aP (aA (uv 1) (aA (iC (n:="tuple") bN) aB))))) (jH (bW uO (cQ hX bT (aA (uv 1) aB)) aK) (jH (bW (OA yS) (aQ (uv 1) aK) (tN yX)) (j8 (iG (eK (aV Jh (aA (uv 0) (aA (aQ (uv 1) aK) aB))))))))))
 (aJ (aZ nY))
 bH)
 (aH (bF 2 qI.nd (aV ME (aA (aV Ni (aA (uv 0) (aA (aQ (uv 1) aK) aB))) (aA (aQ (uv 1) aK) aB))))
 (aH (bY (bW Qi (uv 2) nY)
 (aJ (aZ nY))
 bH)
 (aH (bF 3 qI.nd (aV PH (aA (uv 0) (aA (aQ (uv 1) aK) (aA (uv 2) aB)))))
 (aJ (aZ (uD (eK (aV Ml (aA (uv 3) aB))) (uv 3) nY))))))) ?_
 rintro us M Q ⟨t,u,rfl,hu,hg,hs,q⟩
 refine ⟨rfl,?_⟩
 refine aU fun V hV=>?_
 refine cG fun A B hA hB=>?_
 have fail:cT t u=none->A M:=fun hn=>by
  subst hA
  simp! only [cE,aE,aD]
  rw [hn] at q
  exact aO q
 rcases hu with nt | ⟨us,rfl,hl,hl2⟩ | ⟨x,y,rfl,hx,hy⟩
 ·have:=fail (GC nt)
  rcases nt with rfl | ⟨k,rfl⟩ | ⟨x,rfl,_⟩ | ⟨us,rfl⟩ <;>
  ·simp! only [aE,aE,aD]
   exact this
 ·have:=fail (B4 hl)
  have hd:decide ((us.length:Int)=2)=false:=decide_eq_false (by omega)
  simp! only [aE,hd,aE,aD]
  exact this
 ·rcases hx with rfl | ⟨z,rfl⟩
  ·have:=fail (by unfold cT;split <;> first | rfl | (rename_i e;cases e))
   simp! only [aE,Iy,gU,O2,show decide (((2:Nat):Int)=2)=true from rfl,aE,aD]
   exact this
  ·simp! only [aE,Iy,gU,RO,show decide (((2:Nat):Int)=2)=true from rfl,aE,aD]
   cases hw:C6 z with
   | none =>
    have:=fail (by
     rcases hy with hy | ⟨ws,rfl,_⟩
     ·exact Bv hy
     ·show jT t z ws=none
      unfold jT
      rw [hw];simp)
    simp! only [Option.isSome_none,aE,aD]
    exact this
   | some o =>
    obtain rfl:=CW hw
    simp! only [Option.isSome_some,aE,aD]
    refine ⟨t,y,rfl,?_⟩
    rcases hy with hy | ⟨ws,rfl,hws⟩
    ·refine .inl ⟨hy,?_⟩
     simp! only [aE,aD]
     exact fail (Bv hy)
    ·refine .inr ⟨ws,rfl,hws,?_⟩
     cases hp:jB t ws with
     | false =>
      simp! only [aE,aD]
      exact fail (by show jT t _ ws=none;unfold jT;rw [hp];rfl)
     | true =>
      obtain ⟨a,ht,hpu⟩:=yL hp
      have hc:cT t (.tup [.str o.word,.tup ws])=(o.chg a).bind fun b=>if lA (bZ t (ws.map nZ) b)=true then some (bZ t (ws.map nZ) b) else none:=by
       show jT t _ ws=_
       unfold jT
       rw [hp,hw,ht];rfl
      rw [hc] at q
      clear fail hc hp
      simp! only [aE,aD]
      subst hB
      simp only [b7]
      subst hV
      rw [hpu]
      generalize ws.map nZ=p at ht hpu q ⊢
      clear hpu hws
      have hpl:p.length<=1000:=by have:=lS t p a ht;omega
      refine aU fun V hV=>?_
      simp! only [bQ,hName,aE,aD]
      refine ⟨t,a,p,rfl,ht,?_⟩
      simp! only [aE,aD]
      refine ⟨a,o,rfl,?_⟩
      subst hV
      refine aU fun V hV=>?_
      refine cG fun A B hA hB=>?_
      cases hcb:o.chg a with
      | none =>
       rw [hcb] at q
       simp! only [tE,aE,aD]
       subst hA
       simp! only [cE,aE,aD]
       exact aO q
      | some b =>
       rw [hcb] at q
       have hbn:aD b.toU=false:=by cases b <;> rfl
       simp! only [tE,hbn,aE]
       subst hB
       simp only [b7]
       subst hV
       refine aU fun V hV=>?_
       simp! only [bQ,hName,aE,aD]
       refine ⟨t,a,b,p,by rw [hcb];rfl,ht,hpl,?_⟩
       subst hV
       simp! only [cE,aE,aD]
       refine ⟨toG (bZ t p b),by rw [AK],wZ _ (n9 t p b hg (CD hcb (pL t p a ht hg))),?_⟩
       rw [Um]
       simp only [Option.bind_some] at q
       cases hok:lA (bZ t p b) with
       | true =>
        rw [hok] at q
        simp! only [aE,aD]
        exact aO q
       | false =>
        rw [hok] at q
        simp! only [aE,aD]
        exact aO q
def J8:Str:="no exchange that can be done at this tree"
def QA (C:Addr):yD:=fun us M Q E=>∃ (t:Tr) (u:U),us=[t.toU,u]/\Jg u/\t.good/\t.size<=900/\(∀ c,cT t u=some c->Q c.toU M)/\(cT t u=none->E C [("text",.str J8)] M)
theorem BY {C:Addr} {j:Nat} {cond:L2.V->Prop} (hj:j + 1<=6) (F:b9 K "exchanged" "exchanged" iO f fd) (hm:mg "exchanged"=some (.ref f)) (L0:Callee P w K mg base 6 "come_by" Gf []) (xNE:O7 P w K mg base j "NoExchange" C "text" cond) (hcond:cond (.str J8)):tO P w K mg base 7 "exchanged" (QA C) []:=by
 refine Hu F hm tH (r0 fun _ _ _ _ _ _ _ _=>rfl) (fun us M Q E h=>by obtain ⟨_,_,rfl,_⟩:=h;rfl) (F5 (Qq (bF 2 tH.nd (aV L0 (aA (uv 0) (aA (uv 1) aB)))))
  (F5 (V9 (bW Qi (uv 2) nY)
  (Bl (OM xNE bR))
  (U3 bH))
  (Bl (Qq (aZ (uv 2)))))) ?_
 rintro us M Q E ⟨t,u,rfl,hu,hg,hs,q1,q2⟩
 simp! only [P4,PR,bQ,hName,aE,aD]
 refine ⟨t,u,rfl,hu,hg,hs,?_⟩
 cases hc:cT t u with
 | none =>
  simp! only [tE,Po,GJ,aE,aD]
  exact ⟨⟨.str J8,rfl,hcond⟩,M,Sub.refl M,q2 hc⟩
 | some c =>
  have hbn:aD c.toU=false:=by cases c <;> rfl
  simp! only [tE,hbn,Po,PR,b7,cE,aE]
  exact aO (q1 c hc)
def rQ (t:Tr) (u:U):U:=match cT t u with
 | some c=>c.toU
 | none=>.lst [.bl true,.bl true,.bl false]
def Nm:dA:=fun us M Q=>∃ (t:Tr) (u:U),us=[t.toU,u]/\Jg u/\t.good/\t.size<=900/\Q (rQ t u) M
theorem iT:bB ["tree","exchange","found","e","others"] ["tree","exchange"] (aF jM):=dE
theorem QK {C R aL aN aR aT aG aM:Addr} (F:b9 K "_law_done" "_law_done" jM f fd) (hm:mg "_law_done"=some (.ref f)) (aP:mg "isinstance"=none) (WQ:mg "ValueError"=none) (EU:tO P w K mg base 7 "exchanged" (QA C) [])
  (WJ:mg "RowsmithError"=some (.ref R)) (Wy:mg "NoExchange"=some (.ref C)) (PF:mg "NoLine"=some (.ref aL)) (OQ:mg "NoName"=some (.ref aN)) (Rj:mg "NoRow"=some (.ref aR)) (O0:mg "NoText"=some (.ref aT)) (Kx:mg "NotRight"=some (.ref aG)) (LP:mg "TooMany"=some (.ref aM))
  (hR:Iq K R) (cg:∃ R fI,n6 K C R fI) (hs:PySem.W.subIn K (.ref C) (.ref R)=some true) (k1:PySem.W.kitOne K (.ref C) (.ref C)=some true) (k2:PySem.W.kitOne K (.ref C) (.type "ValueError")=some true) (k3:PySem.W.kitAny K (.ref C) [.ref aL,.ref aN,.ref aR,.ref aT,.ref aG,.ref aM]=some false):Callee P w K mg base 8 "_law_done" Nm []:=by
 refine bL F hm iT (r0 fun _ _ _ _ _ _ _ _=>rfl) (aH (bF 2 iT.nd nY)
  (aH (UN 3 iT.nd WJ hR (Bl (To 2 iT.nd (R0 EU (aA (uv 0) (aA (uv 1) aB)))))
   (fun a C fs=>RN (Qx 4 iT.nd (JI rfl aP (fZ (AI 3) (fZ (V5 (fZ (rC PF) (fZ (rC OQ) (fZ (rC Rj) (fZ (rC O0) (fZ (rC Kx) (fZ (rC LP) xM))))))) xM))))
    (Uv (Qx 2 iT.nd (V6 (own:=false) (fZ (JI rfl aP (fZ (AI 3) (fZ (rC Wy) xM))) (fZ (JI rfl aP (fZ (AI 3) (fZ (WG (n:="ValueError") WQ) xM))) (fZ (AI 4) xM))))))))
  (aJ (aZ (uv 2))))) ?_
 rintro us M Q ⟨t,u,rfl,hu,hg,hsz,q⟩
 refine ⟨rfl,?_⟩
 simp! only [qP,bQ,hName,TR,Qe,Ln,aE,aD]
 refine ⟨t,u,rfl,hu,hg,hsz,fun c hc=>?_,fun hc=>⟨hs,fun a=>?_⟩⟩
 ·simp! only [cE,aE,aD]
  unfold rQ at q
  rw [hc] at q
  exact aO q
 ·simp! only [cE,Km,q8,aE,aD]
  unfold rQ at q
  rw [hc] at q
  refine ⟨cg,fun v hv=>?_,false,k3,cg,(fun z=>nomatch z),true,k1,cg,(fun z=>nomatch z),true,k2,aO q⟩
  simp only [List.mem_cons,List.not_mem_nil,or_false] at hv
  rcases hv with rfl | rfl | rfl | rfl | rfl | rfl <;> exact fun z=>nomatch z
def vD (u:U):Prop:=nN u\/(∃ us,u=.tup us/\us.length≠2/\us.length<=1000)\/∃ x y,u=.tup [x,y]/\(x=.non\/∃ z,x=.str z/\PyData.strOk z=true)/\(nN y\/∃ ws,y=.tup ws/\ws.length<=1000/\∀ x∈ws,tM x)
theorem vD.ok {u:U} (h:vD u):Jg u:=by
 rcases h with h | h | ⟨x,y,e,hx,hy⟩
 ·exact .inl h
 ·exact .inr (.inl h)
 ·refine .inr (.inr ⟨x,y,e,?_,?_⟩)
  ·rcases hx with h | ⟨z,h,_⟩
   ·exact .inl h
   ·exact .inr ⟨z,h⟩
  ·rcases hy with h | ⟨ws,h,_,h2⟩
   ·exact .inl h
   ·exact .inr ⟨ws,h,h2⟩
theorem kQ {z:Str} {ws:List U} (hz:PyData.strOk z=true) (hl:ws.length<=1000) (hw:∀ x∈ws,tM x):vD (.tup [.str z,.tup ws]):=.inr (.inr ⟨_,_,rfl,.inr ⟨z,rfl,hz⟩,.inr ⟨ws,rfl,hl,hw⟩⟩)
theorem N6 {z:Str} {p:List Nat} (hz:PyData.strOk z=true) (hl:p.length<=1000):vD (.tup [.str z,bI p]):=kQ hz (by rw [List.length_map];exact hl) fun x hx=>by
 obtain ⟨n,_,rfl⟩:=List.mem_map.mp hx;exact .inl ⟨_,rfl⟩
def Dq:dA:=fun us M Q=>∃ (t:Tr) (f:Addr) (d x:Int),us=[t.toU,.ref f]/\M f=some (.lst (cD d x))/\0<=d/\0<=x/\x<=2147484647/\t.dep<=45/\t.size<=900/\∀ (L:List U) (d' x':Int),(∀ u∈L,vD u)->L.length<=1000->Q (.lst L) (mup M f (.lst (cD d' x')))
def Wv (M:aI) (f g:Addr) (n:Nat) (Mi:aI):Prop:=∃ d x xs,Mi f=some (.lst (cD d x))/\0<=d/\0<=x/\x<=2147484647/\Mi g=some (.lst xs)/\g≠f/\M g=none/\(∀ u∈xs,vD u)/\xs.length<=n/\∀ b mo,b≠f->M b=some mo->Mi b=some mo
def Qo:List Str:=["swap","right","left","open","shut","off"]
theorem Ue:∀ z∈Qo,PyData.strOk z=true:=by decide +kernel
theorem Lw (F:b9 K "_law_things" "_law_things" g6 f fd) (hm:mg "_law_things"=some (.ref f)) (cU:mg "range"=none) (bT:mg "len"=none) (j9:Callee P w K mg base 50 "_law_spots" (nH 50) []) (bM:Callee P w K mg base 1 "_law_take" mJ []):Callee P w K mg base 51 "_law_things" Dq []:=by
 refine bL F hm gH (r0 fun _ _ _ _ _ _ _ _=>rfl) (aH (bF 2 gH.nd (aV j9 (aA (uv 0) aB)))
 (aH (bF 3 gH.nd (dI (own:=true) aB))
 (aH (gK (fB (dI (own:=false) (aA bR (aA bR (aA bR (aA bR (aA bR (aA bR aB)))))))) (bX (k:=1000) 4 gH.nd)
 (aH (gK (nI cU (aA aK aB)) (bX (k:=1000) 5 gH.nd)
 (aJ (iM (gM (uv 3) (aA (aW (aA (uv 4) (aA (aQ (uv 2) (aV bM (aA (uv 1) (aA (cQ hX bT (aA (uv 2) aB)) aB)))) aB))) aB)))))
 (aJ (bF 3 gH.nd (bV (own:=true) (uv 3) (dI (own:=false) (aA (aW (aA (uv 4) (aA (aW (aA aK aB)) aB))) (aA (aW (aA (uv 4) (aA (bV (own:=false) (aQ (uv 2) (yA aK)) (aW (aA aK aB))) aB))) (aA (aW (aA (uv 4) (aA (aW (aA mN aB)) aB))) (aA (aW (aA (uv 4) (aA (dI (own:=false) aB) aB))) aB))))))))))
 (aJ (aZ (bV (own:=false) (uv 3) (dI (own:=false) (aA (aW (aA bR (aA (aW aB) aB))) (aA (aW (aA bR (aA (aW aB) aB))) (aA (aW (aA bR (aA (aW aB) aB))) (aA (dI (own:=false) (aA bR (aA (aW aB) aB))) (aA (aW (aA bR aB)) (aA (aW (aA bR (aA (aW aB) (aA (aW aB) aB)))) (aA nY (aA aK (aA bR (aA (aW (aA bR (aA nY aB))) (aA (aW (aA nY (aA (aW aB) aB))) (aA (aW (aA bR (aA (aW (aA (yA aK) aB)) aB))) (aA (aW (aA bR (aA bR aB))) aB)))))))))))))))))))) ?_
 rintro us M Q ⟨t,f,d,x,rfl,hf,hd,hx,hx2,dt,st,q⟩
 refine ⟨rfl,?_⟩
 refine aU fun V hV=>?_
 simp! only [bQ,hName,aE,aD]
 refine ⟨t,rfl,by omega,st,?_⟩
 subst hV
 refine aU fun V hV=>?_
 simp! only [bQ,hName,aE,aD]
 intro g hg
 have hgf:g≠f:=fun z=>by subst z;rw [hg] at hf;cases hf
 subst hV
 refine aU fun V hV=>?_
 have hsl:((fO t).map bI).length<=900:=by rw [List.length_map,j2];exact st
 have hs1:1<=((fO t).map bI).length:=by rw [List.length_map,j2];exact size_pos t
 have hsm:∀ u∈(fO t).map bI,∃ p,u=bI p/\p.length<=900:=fun u hu=>by
  obtain ⟨p,hp,rfl⟩:=List.mem_map.mp hu
  have:=nW t p hp
  exact ⟨p,rfl,by omega⟩
 generalize (fO t).map bI=sp at hsl hs1 hsm
 refine gY (S:=⟨none,Qo.map U.str⟩) (M1:=mup M g (.lst [])) (fun R r=>by simp! only [aE,aD];exact r)
  (fun i τ Mi=>∃ (g:Addr) (z4 z5:Option U),τ=[some t.toU,some (.ref f),some (.lst sp),some (.ref g),z4,z5]/\Wv M f g (8 * i) Mi)
  ⟨g,none,none,rfl,d,x,[],by rw [cB (Ne.symm hgf)];exact hf,hd,hx,hx2,aX,hgf,hg,(fun u hu=>by cases hu),Nat.zero_le _,fun b mo _ e=>by rw [cB (fun z=>by subst z;rw [hg] at e;cases e)];exact e⟩ nk ?_ ?_
 ·rintro i u τ Mi e ⟨g,z4,z5,rfl,hS⟩
  have e':(Qo.map U.str)[i]?=some u:=e
  rw [List.getElem?_map] at e'
  cases hk:Qo[i]? with
  | none=>rw [hk] at e';cases e'
  | some z =>
   rw [hk] at e'
   cases e'
   have hi:i < 6:=(List.getElem?_eq_some_iff.mp hk).1
   have hz:=Ue z (List.mem_of_getElem? hk)
   simp! only [hName,aE,aD]
   refine aU fun V2 hV2=>?_
   refine gY (S:=⟨none,cA 0 4⟩) (M1:=Mi) (fun R r=>by simp! only [aE,aD];exact ⟨by decide,by decide,r⟩)
    (fun j τ Mj=>∃ z5,τ=[some t.toU,some (.ref f),some (.lst sp),some (.ref g),some (.str z),z5]/\Wv M f g (8 * i + j) Mj) ⟨z5,rfl,hS⟩ nk ?_ ?_
   ·rintro j u τ Mj e ⟨z5,rfl,d,x,xs,h1,h2,h3,h4,h5,h6,h7,h8,h9,h10⟩
    simp! only [hName,hZ,aE,aD]
    refine ⟨⟨xs,jA h5⟩,f,d,x,(sp.length:Int),rfl,h1,h2,h3,h4,by omega,by omega,fun n d' x' n0 n1 g2 g3 g4=>?_⟩
    obtain ⟨k,rfl⟩:∃ k:Nat,n=(k:Int):=⟨n.toNat,by omega⟩
    have hkl:k < sp.length:=by omega
    refine ⟨sp[k],eC (List.getElem?_eq_getElem hkl),?_⟩
    obtain ⟨p,hp,hpl⟩:=hsm sp[k] (List.getElem_mem hkl)
    rw [hp,cB h6,h5]
    have hj:j < 4:=by have:=(List.getElem?_eq_some_iff.mp e).1;simpa [cA] using this
    refine ⟨big (by omega),_,rfl,d',x',_,by rw [cB (Ne.symm h6),aX],g2,g3,g4,aX,h6,h7,fun v hv=>?_,by rw [List.length_append,List.length_cons,List.length_nil];omega,fun b mo hb e=>?_⟩
    ·rcases List.mem_append.mp hv with hv | hv
     ·exact h8 v hv
     ·obtain rfl:v=.tup [.str z,bI p]:=by simpa using hv
      exact N6 hz (by omega)
    ·rw [cB (fun z=>by subst z;rw [h7] at e;cases e),cB hb]
     exact h10 b mo hb e
   ·rintro τ Mj ⟨z5,rfl,d,x,xs,h1,h2,h3,h4,h5,h6,h7,h8,h9,h10⟩
    subst hV2
    simp! only [bQ,hName,h5,aE,aD]
    obtain ⟨sp0,last,rfl⟩:∃ sp0 last,sp=sp0++[last]:=by
     rcases List.eq_nil_or_concat sp with h | ⟨a,b,h⟩
     ·rw [h] at hs1;cases hs1
     ·exact ⟨a,b,by rw [h,List.concat_eq_append]⟩
    refine ⟨last,Ak,?_⟩
    obtain ⟨p,rfl,hpl⟩:=hsm last (List.mem_append_right _ List.mem_cons_self)
    have hj4:8 * i + (cA 0 4).length=8 * i + 4:=by simp [cA]
    have h9':xs.length<=8 * i + 4:=by rw [<- hj4];exact h9
    unfold bI
    dsimp only
    refine ⟨small (by rw [List.length_map,List.length_cons,List.length_nil];omega),?_⟩
    rw [jA h5]
    refine ⟨small (by rw [List.length_cons,List.length_cons,List.length_cons,List.length_cons,List.length_nil];omega),fun g' hg'=>?_⟩
    have hgf':g'≠f:=fun z=>by subst z;rw [hg'] at h1;cases h1
    refine ⟨g',_,_,rfl,d,x,_,by rw [cB (Ne.symm hgf')];exact h1,h2,h3,h4,aX,hgf',?_,fun v hv=>?_,by rw [List.length_append,List.length_cons,List.length_cons,List.length_cons,List.length_cons,List.length_nil];omega,fun b mo hb e=>?_⟩
    ·cases hM:M g' with
     | none=>rfl
     | some mo=>rw [h10 g' mo hgf' hM] at hg';cases hg'
    ·rcases List.mem_append.mp hv with hv | hv
     ·exact h8 v hv
     ·simp only [List.mem_cons,List.not_mem_nil,or_false] at hv
      rcases hv with rfl | rfl | rfl | rfl
      ·exact kQ hz (by simp) fun y hy=>by obtain rfl:y=.int 2:=(by simpa using hy);exact .inl ⟨_,rfl⟩
      ·refine kQ hz (by rw [List.length_append,List.length_map,List.length_cons,List.length_nil];omega) fun y hy=>?_
       rcases List.mem_append.mp hy with hy | hy
       ·obtain ⟨n,_,rfl⟩:=List.mem_map.mp hy;exact .inl ⟨_,rfl⟩
       ·obtain rfl:y=.int 0:=(by simpa using hy);exact .inl ⟨_,rfl⟩
      ·exact kQ hz (by simp) fun y hy=>by obtain rfl:y=.bl false:=(by simpa using hy);exact .inr ⟨_,rfl⟩
      ·exact .inr (.inr ⟨_,_,rfl,.inr ⟨z,rfl,hz⟩,.inl (.inr (.inr (.inr ⟨_,rfl⟩)))⟩)
    ·rw [cB (fun z=>by subst z;rw [h10 b mo hb e] at hg';cases hg')]
     exact h10 b mo hb e
 ·rintro τ Mi ⟨g,z4,z5,rfl,d,x,xs,h1,h2,h3,h4,h5,h6,h7,h8,h9,h10⟩
  subst hV
  simp! only [cE,h5,aE,aD]
  rw [jA h5]
  have h9':xs.length<=48:=h9
  refine ⟨small (by simp only [List.length_cons,List.length_nil];omega),?_⟩
  refine ⟨_,mup M f (.lst (cD d x)),fun b mo e=>?_,.inl rfl,q _ d x (fun v hv=>?_) (by rw [List.length_append];simp only [List.length_cons,List.length_nil];omega)⟩
  ·by_cases hb:b=f
   ·subst hb;rw [aX] at e;rw [h1];exact e
   ·rw [cB hb] at e;exact h10 b mo hb e
  ·rcases List.mem_append.mp hv with hv | hv
   ·exact h8 v hv
   ·simp only [List.mem_cons,List.not_mem_nil,or_false] at hv
    rcases hv with rfl | rfl | rfl | rfl | rfl | rfl | rfl | rfl | rfl | rfl | rfl | rfl | rfl
    ·exact kQ (by decide +kernel) (by simp) fun y hy=>by cases hy
    ·exact kQ (by decide +kernel) (by simp) fun y hy=>by cases hy
    ·exact kQ (by decide +kernel) (by simp) fun y hy=>by cases hy
    ·exact .inl (.inr (.inr (.inr ⟨_,rfl⟩)))
    ·exact .inr (.inl ⟨_,rfl,by decide,by decide⟩)
    ·exact .inr (.inl ⟨_,rfl,by decide,by decide⟩)
    ·exact .inl (.inl rfl)
    ·exact .inl (.inr (.inl ⟨_,rfl⟩))
    ·exact .inl (.inr (.inr (.inl ⟨_,rfl,by decide⟩)))
    ·exact .inr (.inr ⟨_,_,rfl,.inr ⟨_,rfl,by decide +kernel⟩,.inl (.inl rfl)⟩)
    ·exact .inr (.inr ⟨_,_,rfl,.inl rfl,.inr ⟨_,rfl,by simp,fun y hy=>by cases hy⟩⟩)
    ·exact kQ (by decide +kernel) (by simp) fun y hy=>by obtain rfl:y=.int (-1):=(by simpa using hy);exact .inl ⟨_,rfl⟩
    ·exact .inr (.inr ⟨_,_,rfl,.inr ⟨_,rfl,by decide +kernel⟩,.inl (.inr (.inr (.inl ⟨_,rfl,by decide⟩)))⟩)
theorem Sg (p:List Nat):(p.map fun (n:Nat)=>U.int (n:Int)).map nZ=p:=by
 rw [List.map_map]
 conv=>rhs;rw [<- List.map_id p]
 apply List.map_congr_left
 intro n _
 show ((n:Int)).toNat=n
 omega
theorem R5 {t:Tr} {e:Wo × List Nat × Tr} (h:e∈eM t):cT t (pR e)=some e.2.2:=by
 obtain ⟨a,b,h1,h2,h3,h4⟩:=VQ h
 show jT t e.1.word (e.2.1.map fun (n:Nat)=>U.int (n:Int))=_
 unfold jT
 rw [if_pos (GQ h1),N2,Sg,h1,h3]
 simp only [Option.bind_some]
 rw [h2]
 simp only [Option.bind_some]
 rw [if_pos h4]
theorem RF {t c:Tr} {z:Str} {ws:List U} (h:cT t (.tup [.str z,.tup ws])=some c):∃ e∈eM t,pR e=.tup [.str z,.tup ws]:=by
 have h':jT t z ws=some c:=h
 unfold jT at h'
 split at h'
 ·rename_i hp
  obtain ⟨a,h1,h2⟩:=yL hp
  cases hw:C6 z with
  | none=>rw [hw] at h';cases h'
  | some o =>
   rw [hw,h1] at h'
   simp only [Option.bind_some] at h'
   cases hc:o.chg a with
   | none=>rw [hc] at h';cases h'
   | some b =>
    rw [hc] at h'
    simp only [Option.bind_some] at h'
    split at h'
    ·rename_i hok
     refine ⟨_,U4 h1 hc hok,?_⟩
     show U.tup [.str o.word,bI _]=_
     rw [CW hw,h2]
    ·cases h'
 ·cases h'
theorem Pw {t:Tr} {ws:List U}:cT t (.tup [.non,.tup ws])=none:=by unfold cT;split <;> first | rfl | (rename_i e;cases e)
theorem OL {t:Tr} {x:U} {ws:List U} (h:¬ ∀ u∈ws,∃ k,u=.int k):cT t (.tup [x,.tup ws])=none:=by
 cases hc:cT t (.tup [x,.tup ws]) with
 | none=>rfl
 | some c =>
  exfalso
  cases x with
  | str z =>
   have h':jT t z ws=some c:=hc
   unfold jT at h'
   split at h'
   ·rename_i hp;exact h (Ah hp)
   ·cases h'
  | _=>unfold cT at hc;split at hc <;> first | (rename_i e;cases e) | cases hc
def Ic:U->Bool
 | .int _=>true
 | _=>false
theorem zN:∀ {ws:List U},(∀ u∈ws,∃ k,u=.int k)->∃ ds,gA ws=some ds/\PyData.canLayAll0 ds=true/\PyData.depthAll ds<=0
 | [],_=>⟨[],rfl,rfl,by simp [PyData.depthAll]⟩
 | u :: ws,h=>by
  obtain ⟨k,rfl⟩:=h u List.mem_cons_self
  obtain ⟨ds,h1,h2,h3⟩:=zN fun v hv=>h v (List.mem_cons_of_mem _ hv)
  refine ⟨.int k :: ds,by simp only [gA,toD,h1],?_,?_⟩
  ·simp only [PyData.canLayAll0,PyData.canLay0,h2,Bool.and_self]
  ·simp only [PyData.depthAll,PyData.depth];omega
theorem RZ {x:U} {ws:List U} (hx:x=.non\/∃ z,x=.str z/\PyData.strOk z=true) (h:∀ u∈ws,∃ k,u=.int k):∃ d,toD (.tup [x,.tup ws])=some d/\d.canLay0=true/\d.depth<=60:=by
 obtain ⟨ds,h1,h2,h3⟩:=zN h
 rcases hx with rfl | ⟨z,rfl,hz⟩
 ·refine ⟨.tuple [.none,.tuple ds],by simp only [toD,gA,h1,Option.map_some],?_,?_⟩
  ·simp only [PyData.canLay0,PyData.canLayAll0,h2,Bool.and_self]
  ·simp only [PyData.depth,PyData.depthAll];omega
 ·refine ⟨.tuple [.str z,.tuple ds],by simp only [toD,gA,h1,Option.map_some],?_,?_⟩
  ·simp only [PyData.canLay0,PyData.canLayAll0,h2,hz,Bool.and_self]
  ·simp only [PyData.depth,PyData.depthAll];omega
theorem DA {t:Tr} {M:aI} {Q:UK} {x:U} {ws:List U} (hx:x=.non\/∃ z,x=.str z/\PyData.strOk z=true) (h:∀ u∈ws,∃ k,u=.int k) (q1:cT t (.tup [x,.tup ws])=none->Q (.bl true) M) (q2:Q (.bl false) M) :
  NI true (.tup [x,.tup ws]) (.lst ((eM t).map pR)) M Q:=by
 obtain ⟨d,h1,h2,h3⟩:=RZ hx h
 refine ⟨(eM t).map pR,(eM t).map uX,d,rfl,vK (g:=pR) (gd:=uX) (eM t) (fun e _=>M9 e),h1,yP _ fun e _=>My e,h2,h3,?_⟩
 simp only [if_true]
 cases ha:((eM t).map uX).any (fun e=>PyData.eqv e d) with
 | true=>exact q2
 | false =>
  refine q1 ?_
  cases hc:cT t (.tup [x,.tup ws]) with
  | none=>rfl
  | some c =>
   exfalso
   rcases hx with rfl | ⟨z,rfl,_⟩
   ·rw [Pw] at hc;cases hc
   ·obtain ⟨e,he,hu⟩:=RF hc
    have hd:d=uX e:=by
     have:=M9 e
     rw [hu,h1] at this
     exact Option.some.inj this
    have:((eM t).map uX).any (fun e=>PyData.eqv e d)=true:=List.any_eq_true.mpr ⟨uX e,List.mem_map.mpr ⟨e,he,rfl⟩,by rw [hd];exact PySem.SeqAt.eqv_refl _ (My e)⟩
    rw [ha] at this;cases this
theorem QV {t:Tr} {u:U} {M:aI} {Q:UK} (h:cT t u=none) (q:Q (.bl false) M):jX true (rQ t u) (.lst [.bl true,.bl true,.bl false]) M Q:=by
 unfold rQ
 rw [h]
 exact ne_self (d:=.list [.bool true,.bool true,.bool false]) rfl rfl (by decide +kernel) (by decide +kernel) q
def Dg:dA:=fun us M Q=>∃ u,us=[u]/\tM u/\Q (.bl (Ic u)) M
theorem Lg (F:b9 K "_law_whole" "_law_whole" iN f fd) (hm:mg "_law_whole"=some (.ref f)) (aP:mg "isinstance"=none) (uB:mg "int"=none) (pI:mg "bool"=none):Callee P w K mg base 1 "_law_whole" Dg []:=by
 refine bL F hm CH (g9 fun _ _ _ _ _ _ _=>rfl) (aJ (aZ (nR (cQ hJ aP (aA (uv 0) (aA (iC (n:="int") uB) aB))) (pK (MA (cQ hJ aP (aA (uv 0) (aA (iC (n:="bool") pI) aB)))))))) ?_
 rintro us M Q ⟨u,rfl,hu,q⟩
 refine ⟨rfl,?_⟩
 rcases hu with ⟨k,rfl⟩ | ⟨b,rfl⟩
 ·simp! only [cE,aE,aE,aD]
  exact aO q
 ·simp! only [cE,aE,aE,aD]
  exact aO q
theorem F2 {α:Type} {l:List α} {a b:Option Int} {x:α} (h:x∈eA l a b):x∈l:=by
 unfold eA at h
 exact List.mem_of_mem_drop (List.mem_of_mem_take h)
theorem zU {α:Type} {l:List α} {a b:Option Int}:(eA l a b).length<=l.length:=by
 unfold eA
 rw [List.length_take,List.length_drop]
 omega
theorem Rx {wi:UI} {g:UG} {tb:US} {D:kT} {τ:SU} {M:aI} (G:Src->aI->Prop) (hw:∀ R:Src->aI->Prop,(∀ S M1,G S M1->R S M1)->wi τ M R) (P:Nat->SU->aI->Prop) (h0:∀ S M1,G S M1->P 0 τ M1) (hok:∀ S M1,G S M1->∀ i τ M,P i τ M->S.ok M)
  (turn:∀ S M1,G S M1->∀ i x τ M,S.xs[i]?=some x->P i τ M->g x τ M fun τ2 M2=>tb { D with nx:=P (i + 1),ct:=P (i + 1),bk:=D.nx } τ2 M2) (fin:∀ S M1,G S M1->∀ τ M,P S.xs.length τ M->D.nx τ M):JN wi g tb D τ M:=hw _ fun S M1 h1=>⟨P,h0 S M1 h1,hok S M1 h1,turn S M1 h1,fin S M1 h1⟩
def xY:dA:=fun us M Q=>∃ ns:List Int,us=[.lst (ns.map .int)]/\ns.length<=63/\Q (.bl true) M
theorem Ox {ws:List U} (hw:∀ x∈ws,tM x):(ws.map fun u=>U.bl (Ic u)).any (fun u=>nP u (.bl false))=false ↔ ∀ u∈ws,∃ k,u=.int k:=by
 rw [List.any_eq_false]
 constructor
 ·intro h u hu
  rcases hw u hu with h1 | ⟨b,rfl⟩
  ·exact h1
  ·exact absurd rfl (h (.bl false) (List.mem_map.mpr ⟨_,hu,rfl⟩))
 ·intro h v hv
  obtain ⟨u,hu,rfl⟩:=List.mem_map.mp hv
  obtain ⟨k,rfl⟩:=h u hu
  show ¬ (true == false)=true
  decide
theorem TZ (F:b9 K "law" "law" nA f fd) (cU:mg "range"=none) (nD:mg "max"=none) (Hz:mg "min"=none) (bT:mg "len"=none) (aP:mg "isinstance"=none) (bN:mg "tuple"=none) (wW:Callee P w K mg base 1 "_law_feed" K7 []) (bM:Callee P w K mg base 1 "_law_take" mJ []) (KG:Callee P w K mg base 12 "_law_web" Qz []) (DO:Callee P w K mg base 2 "_law_great" GH []) (Nf:Callee P w K mg base 51 "_law_all" Qr [])
  (v9:Callee P w K mg base 8 "_law_done" Nm []) (A9:Callee P w K mg base 51 "_law_things" Dq []) (F0:Callee P w K mg base 1 "_law_whole" Dg []):dX P w K mg base j6 52 f fd ["script"] (gL K xY):=by
 refine Gs F iI (fun us M Q h=>by obtain ⟨x,rfl,_⟩:=h;rfl) (aH (gK (Sv cU (aA aK (aA (cQ L8 nD (aA aK (aA (cQ V7 Hz (aA aK (aA (cQ hX bT (aA (uv 0) aB)) aB))) aB))) (aA aK aB)))) (bX (k:=1000) 1 iI.nd)
 (aH (bF 2 iI.nd (aV wW (aA (uv 0) (aA (uv 1) aB))))
 (aH (bF 3 iI.nd (aQ (aV KG (aA (uv 2) (aA aK (aA (bV (own:=false) aK (aV bM (aA (uv 2) (aA aK aB)))) aB)))) aK))
 (aH (bY (iJ.pt (nS (bW cM (uv 1) aK) (lP (bW cM (aV bM (aA (uv 2) (aA aK aB))) aK))))
 (aJ (bF 3 iI.nd (aV DO (aA (uv 2) aB))))
 bH)
 (aH (bF 4 iI.nd (aV Nf (aA (uv 3) aB)))
 (aH (gK (fB (bV (own:=false) (gZ (own:=false) (uv 4) fL (fH aK)) (gZ (own:=false) (uv 4) (fH (yA aK)) fL))) (xJ (n:=2) (jC (bX (k:=1000) 5 iI.nd) (jC (bX (k:=1000) 6 iI.nd) tV)))
 (aJ (bY (bW uO (aV v9 (aA (uv 3) (aA (uv 5) aB))) (uv 6))
 (aJ (aZ mN))
 bH)))
 (aH (Sn 7 iI.nd false ["one"] 1 [] (fB (uv 4)) (bX (k:=1) 0 (by dsimp only [cJ];decide +kernel)) jQ (aQ (uv 0) aK))
 (aJ (gK (fB (aV A9 (aA (uv 3) (aA (aV wW (aA (uv 0) (aA (bV (own:=false) (uv 1) aK) aB))) aB)))) (bX (k:=1000) 8 iI.nd)
 (aH (bF 9 iI.nd (nR (cQ hJ aP (aA (uv 8) (aA (iC (n:="tuple") bN) aB))) (nR (y9 cM (cQ hX bT (aA (uv 8) aB)) aK) (pK (cQ hJ aP (aA (aQ (uv 8) aK) (aA (iC (n:="tuple") bN) aB)))))))
 (aH (bY (eK (uv 9))
 (aJ (bF 9 iI.nd (y9 y6 mN (iR false ["part"] 1 [] (fB (aQ (uv 8) aK)) (bX (k:=1) 0 (by dsimp only [cJ];decide +kernel)) jQ (aV F0 (aA (uv 0) aB))))))
 bH)
 (aJ (bY (iJ.pt (jH (iG (eK (uv 9))) (j8 (bW Of (uv 8) (uv 7)))))
 (aJ (bY (bW uO (aV v9 (aA (uv 3) (aA (uv 8) aB))) (dI (own:=false) (aA mN (aA mN (aA mN aB)))))
 (aJ (aZ mN))
 bH))
 bH)))))))))))))
 (aJ (aZ mN))) ?_
 rintro us M Q ⟨ns,rfl,hl,q⟩
 refine aU fun V hV=>?_
 generalize hj:(if (if (ns.length:Int) < 8 then (ns.length:Int) else 8) > 2 then (if (ns.length:Int) < 8 then (ns.length:Int) else 8) else 2)=j
 have hj8:0<=j/\j<=8:=by rw [<- hj];split <;> split <;> omega
 refine gY (S:=⟨none,jJ (half j)⟩) (M1:=M) (fun R r=>by simp! only [Hd,List.length_map,aE,aD];rw [hj];exact ⟨hj8.1,by omega,r⟩)
  (fun i τ Mi=>∃ z1 z2 z3 z4 z5 z6 z7 z8 z9:Option U,τ=[some (.lst (ns.map U.int)),z1,z2,z3,z4,z5,z6,z7,z8,z9]/\Sub M Mi) ⟨none,none,none,none,none,none,none,none,none,rfl,Sub.refl M⟩ nk ?_ ?_
 ·rintro i x τ Mi e ⟨z1,z2,z3,z4,z5,z6,z7,z8,z9,rfl,hSub⟩
  obtain ⟨rfl,hi⟩:=u4 e
  have hi4:i<=4:=by unfold half at hi;omega
  have ei:((i:Int) * 2)=((i * 2:Nat):Int):=by omega
  rw [ei]
  simp! only [hName,aE,aD]
  refine aU fun V2 hV2=>?_
  simp! only [bQ,hName,aE,aD]
  refine ⟨ns,i * 2,rfl,by omega,fun r d x hr hd hx hx2=>?_⟩
  subst hV2
  refine aU fun V2 hV2=>?_
  simp! only [bQ,hName,aE,aD]
  refine ⟨r,d,x,4,rfl,aX,hd,hx,hx2,by decide,by decide,fun n1 d1 x1 a1 b1 c1 c2 c3=>?_⟩
  rw [bU]
  simp! only [aE,aD]
  obtain ⟨k,hk⟩:∃ k:Nat,1 + n1=(k:Int):=⟨(1 + n1).toNat,by omega⟩
  rw [hk]
  refine ⟨r,d1,x1,k,rfl,aX,c1,c2,c3,by omega,fun t0 d2 x2 gt0 dt0 st0 f1 f2 f3=>?_⟩
  rw [bU]
  have hk4:k<=4:=by omega
  have hsz0:t0.size<=31:=by
   have:2 ^ (k + 1)<=2 ^ 5:=Nat.pow_le_pow_right (by omega) (by omega)
   omega
  have hdp0:t0.dep<=5:=by omega
  simp! only [aE,aD]
  subst hV2
  refine aU fun V2 hV2=>?_
  have rest2:∀ (t:Tr) (d x:Int),t.good->t.dep<=45->t.size<=900->V2 [some (.lst (ns.map U.int)),some (.int ((i * 2:Nat):Int)),some (.ref r),some t.toU,z4,z5,z6,z7,z8,z9] (mup Mi r (.lst (cD d x))):=by
   intro t d x gt dt st
   have hel:=TH st
   subst hV2
   generalize hMM:mup Mi r (.lst (cD d x))=MM
   have hSub2:Sub M MM:=by
    rw [<- hMM];exact fun b mo e=>by rw [cB (fun z=>by subst z;rw [hSub b mo e] at hr;cases hr)];exact hSub b mo e
   refine aU fun V2 hV2=>?_
   simp! only [bQ,hName,aE,aD]
   refine ⟨t,rfl,dt,st,?_⟩
   subst hV2
   refine aU fun V2 hV2=>?_
   refine gY (S:=⟨none,eA ((eM t).map gE) none (some 8)++eA ((eM t).map gE) (some (-4)) none⟩) (M1:=MM) (fun R r=>by
     have h1:=zU (l:=(eM t).map gE) (a:=none) (b:=some 8)
     have h2:=zU (l:=(eM t).map gE) (a:=some (-4)) (b:=none)
     rw [List.length_map] at h1 h2
     simp! only [aE,aD]
     exact ⟨small (by omega),r⟩)
    (fun i' τ Mi=>∃ z5 z6,τ=[some (.lst (ns.map U.int)),some (.int ((i * 2:Nat):Int)),some (.ref r),some t.toU,some (.lst ((eM t).map gE)),z5,z6,z7,z8,z9]/\Mi=MM) ⟨_,_,rfl,rfl⟩ nk ?_ ?_
   ·rintro j u τ Mj e ⟨z5,z6,rfl,rfl⟩
    have hmem:u∈eA ((eM t).map gE) none (some 8)++eA ((eM t).map gE) (some (-4)) none:=List.mem_of_getElem? e
    have hmem':u∈(eM t).map gE:=(List.mem_append.mp hmem).elim F2 F2
    obtain ⟨ex,hex,rfl⟩:=List.mem_map.mp hmem'
    have hgx:ex.2.2.good:=OK gt ex (List.mem_filter.mp hex).1
    have hox:lA ex.2.2=true:=(List.mem_filter.mp hex).2
    have hdx:ex.2.2.dep<=40:=by unfold lA at hox;rw [Bool.and_eq_true] at hox;exact of_decide_eq_true hox.2
    have hlx:=Oi st ex hex
    refine ⟨rfl,?_⟩
    simp! only [gE,lL,mE,pE,hName,aE,aD]
    refine cG fun A B hA hB=>?_
    simp! only [aE,aD]
    refine ⟨t,pR ex,rfl,.inr (.inr ⟨_,_,rfl,.inr ⟨_,rfl⟩,.inr ⟨_,rfl,fun y hy=>by obtain ⟨n,_,rfl⟩:=List.mem_map.mp hy;exact .inl ⟨_,rfl⟩⟩⟩),gt,st,?_⟩
    have hdn:rQ t (pR ex)=ex.2.2.toU:=by unfold rQ;rw [R5 hex]
    rw [hdn]
    refine RD hgx (by omega) ?_
    simp! only [aE,aD]
    subst hB
    simp only [b7]
    exact ⟨_,_,rfl,trivial⟩
   ·rintro τ Mj ⟨z5,z6,rfl,rfl⟩
    show V2 _ _
    subst hV2
    refine aU fun V2 hV2=>?_
    simp only [bQ]
    refine gJ (S:=⟨none,(eM t).map gE⟩) (M1:=Mj) ((eM t).map pR) (fun R r=>by simp! only [aE,aD];exact r) (by simp) (small (by show ((eM t).map gE).length<=_;rw [List.length_map];omega)) (fun a e=>by cases e) ?_ ?_
    ·intro j x y hx hy M' hS R r'
     have hx':((eM t).map gE)[j]?=some x:=hx
     rw [List.getElem?_map] at hx' hy
     cases hk:(eM t)[j]? with
     | none=>rw [hk] at hx';cases hx'
     | some ex =>
      rw [hk] at hx' hy
      cases hx';cases hy
      simp! only [hName,gE,aE,aD]
      exact r'
    simp! only [hName,aE,aD]
    subst hV2
    refine Rx (fun S M1=>S.own=none/\(∀ u∈S.xs,vD u)/\Sub M M1) (fun R r'=>?_)
     (fun i' τ Mi=>∃ z8 z9,τ=[some (.lst (ns.map U.int)),some (.int ((i * 2:Nat):Int)),some (.ref r),some t.toU,some (.lst ((eM t).map gE)),z5,z6,some (.lst ((eM t).map pR)),z8,z9]/\Sub M Mi) (fun S M1 h=>⟨_,_,rfl,h.2.2⟩) (fun S M1 h i τ M' _ a e=>by rw [h.1] at e;cases e) ?_ ?_
    ·have e2:((i * 2:Nat):Int) + 1=((i * 2 + 1:Nat):Int):=by omega
     simp! only [aE,aD]
     rw [e2]
     refine ⟨ns,i * 2 + 1,rfl,by omega,fun r2 d x hr2 hd hx hx2=>?_⟩
     refine ⟨t,r2,d,x,rfl,aX,hd,hx,hx2,dt,st,fun L d' x' hL hLl=>?_⟩
     rw [bU]
     simp! only [aE,aD]
     exact r' ⟨none,L⟩ _ ⟨rfl,hL,hSub2.mup (hSub2.none hr2)⟩
    ·rintro S M1 ⟨hS1,hS2,hS3⟩ j u τ Mi e ⟨z8,z9,rfl,hS4⟩
     have hu:=hS2 u (List.mem_of_getElem? e)
     simp only [hName]
     refine aU fun V3 hV3=>?_
     have go:∀ k0:Bool,(k0=false->cT t u=none)->(k0=true->∃ x ws,u=.tup [x,.tup ws]/\(x=.non\/∃ z,x=.str z/\PyData.strOk z=true)/\ws.length<=1000/\∀ x∈ws,tM x)->V3 [some (.lst (ns.map U.int)),some (.int ((i * 2:Nat):Int)),some (.ref r),some t.toU,some (.lst ((eM t).map gE)),z5,z6,some (.lst ((eM t).map pR)),some u,some (.bl k0)] Mi:=by
      intro k0 h0 h1
      subst hV3
      refine aU fun V4 hV4=>?_
      have last:∀ kb:Bool,(kb=false->cT t u=none)->(kb=true->∃ x ws,u=.tup [x,.tup ws]/\(x=.non\/∃ z,x=.str z/\PyData.strOk z=true)/\∀ v∈ws,∃ k,v=.int k)->V4 [some (.lst (ns.map U.int)),some (.int ((i * 2:Nat):Int)),some (.ref r),some t.toU,some (.lst ((eM t).map gE)),z5,z6,some (.lst ((eM t).map pR)),some u,some (.bl kb)] Mi:=by
       intro kb h0 h1
       subst hV4
       refine cG fun A B hA hB=>?_
       have ask:cT t u=none->A Mi:=fun hn=>by
        subst hA
        refine cG fun A B hA hB=>?_
        simp! only [aE,aD]
        refine ⟨t,u,rfl,hu.ok,gt,st,?_⟩
        refine QV hn ?_
        simp! only [aE,aD]
        subst hB
        simp only [b7]
        exact ⟨_,_,rfl,hS4⟩
       have skip:B Mi:=by
        subst hB
        simp only [b7]
        exact ⟨_,_,rfl,hS4⟩
       cases kb with
       | false =>
        simp! only [aE,aD]
        exact ask (h0 rfl)
       | true =>
        obtain ⟨x,ws,rfl,hx,hw⟩:=h1 rfl
        simp! only [aE,aD]
        refine DA hx hw (fun hn=>?_) ?_
        ·simp! only [aE,aD]
         exact ask hn
        ·simp! only [aE,aD]
         exact skip
      refine cG fun A B hA hB=>?_
      cases k0 with
      | false =>
       simp! only [aE,aD]
       subst hB
       simp only [b7]
       exact last false h0 fun z=>nomatch z
      | true =>
       obtain ⟨x,ws,rfl,hx,hwl,hw⟩:=h1 rfl
       simp! only [aE,aD]
       subst hA
       simp! only [bQ,hName,aE,aD]
       refine gJ (S:=⟨none,ws⟩) (M1:=Mi) (ws.map fun u=>U.bl (Ic u)) (fun R r=>by simp! only [aE,aD];exact r) (by simp) (small (by show ws.length<=_;omega)) (fun a e=>by cases e) ?_ ?_
       ·intro j' v y hx' hy M' hS R r'
        have hx'':ws[j']?=some v:=hx'
        rw [List.getElem?_map,hx''] at hy
        cases hy
        simp! only [hName,aE,aD]
        exact ⟨v,rfl,hw v (List.mem_of_getElem? hx''),r'⟩
       have hall:=Ox hw
       simp! only [aE,aD]
       refine ⟨rfl,List.all_eq_true.mpr fun v hv=>by obtain ⟨u,_,rfl⟩:=List.mem_map.mp hv;rfl,?_⟩
       cases ha:(ws.map fun u=>U.bl (Ic u)).any (fun u=>nP u (.bl false)) with
       | true=>exact last false (fun _=>OL fun h=>by have:=hall.mpr h;rw [ha] at this;cases this) fun z=>nomatch z
       | false=>exact last true (fun z=>nomatch z) fun _=>⟨x,ws,rfl,hx,hall.mp ha⟩
     rcases hu with nt | ⟨us,rfl,hl1,hl2⟩ | ⟨x,y,rfl,hx,hy⟩
     ·have:=go false (fun _=>GC nt) fun z=>nomatch z
      rcases nt with rfl | ⟨k,rfl⟩ | ⟨x,rfl,_⟩ | ⟨us,rfl⟩ <;>
      ·simp! only [bQ,aE,hName,aE,aD]
       exact this
     ·have hd:decide ((us.length:Int)=2)=false:=decide_eq_false (by omega)
      simp! only [bQ,aE,hName,hd,aE,aD]
      exact go false (fun _=>B4 hl1) fun z=>nomatch z
     ·rcases hy with nt | ⟨ws,rfl,hwl,hw⟩
      ·have:=go false (fun _=>Bv nt) fun z=>nomatch z
       rcases nt with rfl | ⟨k,rfl⟩ | ⟨x',rfl,_⟩ | ⟨us,rfl⟩ <;>
       ·simp! only [bQ,aE,hName,show decide (((2:Nat):Int)=2)=true from rfl,aE,aD]
        exact this
      ·simp! only [bQ,aE,hName,show decide (((2:Nat):Int)=2)=true from rfl,aE,aD]
       exact go true (fun z=>nomatch z) fun _=>⟨x,ws,rfl,hx,hwl,hw⟩
    ·rintro S M1 ⟨hS1,hS2,hS3⟩ τ Mi ⟨z8,z9,rfl,hS4⟩
     exact ⟨_,_,_,_,_,_,_,_,_,rfl,hS4⟩
  refine cG fun A B hA hB=>?_
  simp! only [aE,aD]
  refine g0 (fun h=>?_) (fun h=>?_)
  ·refine ⟨r,d2,x2,4,rfl,aX,f1,f2,f3,by decide,by decide,fun n1 d1 x1 a1 b1 c1 c2 c3=>?_⟩
   rw [bU]
   simp! only [aE,aD]
   refine g0 (fun h=>?_) (fun h=>?_)
   ·subst hA
    simp! only [bQ,hName,aE,aD]
    refine ⟨r,d1,x1,rfl,aX,c1,c2,c3,fun t d' x' gt dt st=>?_⟩
    rw [bU]
    exact rest2 t d' x' gt dt st
   ·subst hB
    simp only [b7]
    exact rest2 t0 d1 x1 gt0 (by omega) (by omega)
  ·subst hB
   simp only [b7]
   exact rest2 t0 d2 x2 gt0 (by omega) (by omega)
 ·rintro τ Mi ⟨z1,z2,z3,z4,z5,z6,z7,z8,z9,rfl,hSub⟩
  subst hV
  simp! only [cE,aE,aD]
  exact ⟨_,M,hSub,.inl rfl,q⟩
end
end K86
namespace K86
open PySem L2 U2
def Ui (s:Stmt) (i:Nat):Stmt:=match s with
 | .ClassDef _ _ _ b _ _ _ _ _ _ _=>b.getD i (.Pass ⟨0,0,0,0⟩)
 | _=>.Pass ⟨0,0,0,0⟩
def CF (n:Str):List Stmt->Stmt
 | []=>.Pass ⟨0,0,0,0⟩
 | s :: r=>match s with
  | .ClassDef m _ _ _ _ _ _ _ _ _ _=>if m=n then s else CF n r
  | _=>CF n r
def qT:Stmt:=Ui (CF "NoExchange" PySem.Challenge.pw_rowsmith_k86_exchanges_done.main.body) 0
theorem T5:bB ["self","text"] ["self","text"] (aF qT):=dE
section
variable {P:Program} {w:World} {K:PySem.W.Frag} {mg:Str->Option Value} {base:Heap}
theorem RY {R C fI:Addr} {fd:FuncData} (F:b9 K "__init__" "NoExchange.__init__" qT fI fd) (hm:mg "RowsmithError"=some (.ref R)) (B:AO K R) (c:oY K C R fI) (n:xT K C "text"):dX P w K mg base j6 1 fI fd ["self","text"] (oC C "text" fun _=>True) :=
 RL (k:=0) (t2:=vM 1) F hm B c n rfl T5 rfl (fun X h1 h2 h3=>nK (by rw [h1];rfl) (by rw [h2];exact .inl rfl)) (fun a y H Q _ q=>⟨y,rfl,q y⟩)
theorem SQ {R C fI:Addr} {fd:FuncData} (F:b9 K "__init__" "NoExchange.__init__" qT fI fd) (hm:mg "RowsmithError"=some (.ref R)) (hc:mg "NoExchange"=some (.ref C)) (B:AO K R) (c:n6 K C R fI) (n:xT K C "text"):O7 P w K mg base 1 "NoExchange" C "text" fun _=>True :=
 ⟨R,fI,fd,"text",c,hc,RY F hm B c.toXCls n,F.binds fun _ _ _ _ _ _ us hl=>match us,hl with | [_,_],_=>rfl⟩
end
end K86
namespace K86
open PySem L2 U2
theorem Bx {K:PySem.W.Frag} {H:Hp} {M:aI}:∀ ns:List Int,aS K H M (ns.map U.int) (ns.map V.int)
 | []=>.nil
 | _ :: r=>.cons cP (Bx r)
theorem Nq {K:PySem.W.Frag} {H:Hp} {a:Addr} {ns:List Int} {E:XK} (hl:ns.length<=63) (hS:dM K H a (ns.map V.int)):gL K xY [.ref a] H (fun v _=>v=.bl true) E:=by
 refine ⟨[.lst (ns.map .int)],fun _=>none,fun u _=>u=.bl true,(fun a mo e=>by cases e),.cons ?_ .nil,⟨ns,rfl,hl,rfl⟩,fun u v M1 H1 _ _ ru q=>by subst q;exact ru.bl⟩
 simp only [aY]
 refine ⟨a,_,rfl,?_,Bx ns⟩
 rcases hS with h | h
 ·exact .inl ⟨trivial,h⟩
 ·exact .inr h
open PyProof.Rows in
theorem all_mk {cNE cRE fI aL aN aR aT aG aM xN:Addr} {xnm xqq:Str} {xbs xsub:List Value} {xsn:List Str} {xab:Bool} {xcol:Option Bool} {xdd xod xan:Option Addr} {xk0 xk1 xk2 xk3 xk5:Option Value} {xosl:Array (Option Value)} {xoc xkV xdoc xpm xcdv xct:Value} {l:PySem.W.OpenLaw} {w:World} {K:PySem.W.Frag} {h:Heap} {mg:Str->Option Value} {fa f0 f1 f2 f3 f4 f5 f6 f7 f8 f9 f10 f11 f12 f13 f14 f15 f16 f17 f18 f19 f20 f21 f22 f23 f24 f25 f26 f27 f28 f29 f30 f31 f32 f33 f34 f35 f36 f37 f38 f39 f40:Addr} (X:K.In h) (G:h.Ns mainGlobals mg) (hfa:mg "law"=some (.ref fa))
  {od0 an0:Option Addr} {sl0:Array (Option Value)} {oc0 kV0 dc0 pm0 cd0 ct0:Value}
  {od1 an1:Option Addr} {sl1:Array (Option Value)} {oc1 kV1 dc1 pm1 cd1 ct1:Value}
  {od2 an2:Option Addr} {sl2:Array (Option Value)} {oc2 kV2 dc2 pm2 cd2 ct2:Value}
  {od3 an3:Option Addr} {sl3:Array (Option Value)} {oc3 kV3 dc3 pm3 cd3 ct3:Value}
  {od4 an4:Option Addr} {sl4:Array (Option Value)} {oc4 kV4 dc4 pm4 cd4 ct4:Value}
  {od5 an5:Option Addr} {sl5:Array (Option Value)} {oc5 kV5 dc5 pm5 cd5 ct5:Value}
  {od6 an6:Option Addr} {sl6:Array (Option Value)} {oc6 kV6 dc6 pm6 cd6 ct6:Value}
  {od7 an7:Option Addr} {sl7:Array (Option Value)} {oc7 kV7 dc7 pm7 cd7 ct7:Value}
  {od8 an8:Option Addr} {sl8:Array (Option Value)} {oc8 kV8 dc8 pm8 cd8 ct8:Value}
  {od9 an9:Option Addr} {sl9:Array (Option Value)} {oc9 kV9 dc9 pm9 cd9 ct9:Value}
  {od10 an10:Option Addr} {sl10:Array (Option Value)} {oc10 kV10 dc10 pm10 cd10 ct10:Value}
  {od11 an11:Option Addr} {sl11:Array (Option Value)} {oc11 kV11 dc11 pm11 cd11 ct11:Value}
  {od12 an12:Option Addr} {sl12:Array (Option Value)} {oc12 kV12 dc12 pm12 cd12 ct12:Value}
  {od13 an13:Option Addr} {sl13:Array (Option Value)} {oc13 kV13 dc13 pm13 cd13 ct13:Value}
  {od14 an14:Option Addr} {sl14:Array (Option Value)} {oc14 kV14 dc14 pm14 cd14 ct14:Value}
  {od15 an15:Option Addr} {sl15:Array (Option Value)} {oc15 kV15 dc15 pm15 cd15 ct15:Value}
  {od16 an16:Option Addr} {sl16:Array (Option Value)} {oc16 kV16 dc16 pm16 cd16 ct16:Value}
  {od17 an17:Option Addr} {sl17:Array (Option Value)} {oc17 kV17 dc17 pm17 cd17 ct17:Value}
  {od18 an18:Option Addr} {sl18:Array (Option Value)} {oc18 kV18 dc18 pm18 cd18 ct18:Value}
  {od19 an19:Option Addr} {sl19:Array (Option Value)} {oc19 kV19 dc19 pm19 cd19 ct19:Value}
  {od20 an20:Option Addr} {sl20:Array (Option Value)} {oc20 kV20 dc20 pm20 cd20 ct20:Value}
  {od21 an21:Option Addr} {sl21:Array (Option Value)} {oc21 kV21 dc21 pm21 cd21 ct21:Value}
  {od22 an22:Option Addr} {sl22:Array (Option Value)} {oc22 kV22 dc22 pm22 cd22 ct22:Value}
  {od23 an23:Option Addr} {sl23:Array (Option Value)} {oc23 kV23 dc23 pm23 cd23 ct23:Value}
  {od24 an24:Option Addr} {sl24:Array (Option Value)} {oc24 kV24 dc24 pm24 cd24 ct24:Value}
  {od25 an25:Option Addr} {sl25:Array (Option Value)} {oc25 kV25 dc25 pm25 cd25 ct25:Value}
  {od26 an26:Option Addr} {sl26:Array (Option Value)} {oc26 kV26 dc26 pm26 cd26 ct26:Value}
  {od27 an27:Option Addr} {sl27:Array (Option Value)} {oc27 kV27 dc27 pm27 cd27 ct27:Value}
  {od28 an28:Option Addr} {sl28:Array (Option Value)} {oc28 kV28 dc28 pm28 cd28 ct28:Value}
  {od29 an29:Option Addr} {sl29:Array (Option Value)} {oc29 kV29 dc29 pm29 cd29 ct29:Value}
  {od30 an30:Option Addr} {sl30:Array (Option Value)} {oc30 kV30 dc30 pm30 cd30 ct30:Value}
  {od31 an31:Option Addr} {sl31:Array (Option Value)} {oc31 kV31 dc31 pm31 cd31 ct31:Value}
  {od32 an32:Option Addr} {sl32:Array (Option Value)} {oc32 kV32 dc32 pm32 cd32 ct32:Value}
  {od33 an33:Option Addr} {sl33:Array (Option Value)} {oc33 kV33 dc33 pm33 cd33 ct33:Value}
  {od34 an34:Option Addr} {sl34:Array (Option Value)} {oc34 kV34 dc34 pm34 cd34 ct34:Value}
  {od35 an35:Option Addr} {sl35:Array (Option Value)} {oc35 kV35 dc35 pm35 cd35 ct35:Value}
  {od36 an36:Option Addr} {sl36:Array (Option Value)} {oc36 kV36 dc36 pm36 cd36 ct36:Value}
  {od37 an37:Option Addr} {sl37:Array (Option Value)} {oc37 kV37 dc37 pm37 cd37 ct37:Value}
  {od38 an38:Option Addr} {sl38:Array (Option Value)} {oc38 kV38 dc38 pm38 cd38 ct38:Value}
  {od39 an39:Option Addr} {sl39:Array (Option Value)} {oc39 kV39 dc39 pm39 cd39 ct39:Value}
  {od40 an40:Option Addr} {sl40:Array (Option Value)} {oc40 kV40 dc40 pm40 cd40 ct40:Value}
  {tk0:Tok}
  {tk1:Tok}
  {tk2:Tok}
  {tk3:Tok}
  {tk4:Tok}
  (a0:PySem.W.nsIn K mainGlobals "is_tree"=some (some (.ref f0))) (l0:K.lookup f0=some ⟨oc0,od0,.func (PySem.W.fnOf "is_tree" "is_tree" (bC kP) (bA kP) (aF kP) .none kV0 dc0 pm0 an0 cd0 ct0),sl0⟩) (c0:PySem.W.codeIn K cd0 "is_tree"=true) (k0:PySem.W.keepIn K (.ref f0)=true)
  (a1:PySem.W.nsIn K mainGlobals "is_shape"=some (some (.ref f1))) (l1:K.lookup f1=some ⟨oc1,od1,.func (PySem.W.fnOf "is_shape" "is_shape" (bC jL) (bA jL) (aF jL) .none kV1 dc1 pm1 an1 cd1 ct1),sl1⟩) (c1:PySem.W.codeIn K cd1 "is_shape"=true) (k1:PySem.W.keepIn K (.ref f1)=true)
  (a2:PySem.W.nsIn K mainGlobals "is_tree_leaf"=some (some (.ref f2))) (l2:K.lookup f2=some ⟨oc2,od2,.func (PySem.W.fnOf "is_tree_leaf" "is_tree_leaf" (bC fJ) (bA fJ) (aF fJ) .none kV2 dc2 pm2 an2 cd2 ct2),sl2⟩) (c2:PySem.W.codeIn K cd2 "is_tree_leaf"=true) (k2:PySem.W.keepIn K (.ref f2)=true)
  (a3:PySem.W.nsIn K mainGlobals "is_name"=some (some (.ref f3))) (l3:K.lookup f3=some ⟨oc3,od3,.func (PySem.W.fnOf "is_name" "is_name" (bC kR) (bA kR) (aF kR) .none kV3 dc3 pm3 an3 cd3 ct3),sl3⟩) (c3:PySem.W.codeIn K cd3 "is_name"=true) (k3:PySem.W.keepIn K (.ref f3)=true)
  (a4:PySem.W.nsIn K mainGlobals "is_sign"=some (some (.ref f4))) (l4:K.lookup f4=some ⟨oc4,od4,.func (PySem.W.fnOf "is_sign" "is_sign" (bC kJ) (bA kJ) (aF kJ) .none kV4 dc4 pm4 an4 cd4 ct4),sl4⟩) (c4:PySem.W.codeIn K cd4 "is_sign"=true) (k4:PySem.W.keepIn K (.ref f4)=true)
  (a5:PySem.W.nsIn K mainGlobals "is_number"=some (some (.ref f5))) (l5:K.lookup f5=some ⟨oc5,od5,.func (PySem.W.fnOf "is_number" "is_number" (bC iV) (bA iV) (aF iV) .none kV5 dc5 pm5 an5 cd5 ct5),sl5⟩) (c5:PySem.W.codeIn K cd5 "is_number"=true) (k5:PySem.W.keepIn K (.ref f5)=true)
  (a6:PySem.W.nsIn K mainGlobals "is_whole"=some (some (.ref f6))) (l6:K.lookup f6=some ⟨oc6,od6,.func (PySem.W.fnOf "is_whole" "is_whole" (bC jF) (bA jF) (aF jF) .none kV6 dc6 pm6 an6 cd6 ct6),sl6⟩) (c6:PySem.W.codeIn K cd6 "is_whole"=true) (k6:PySem.W.keepIn K (.ref f6)=true)
  (a7:PySem.W.nsIn K mainGlobals "parts_of"=some (some (.ref f7))) (l7:K.lookup f7=some ⟨oc7,od7,.func (PySem.W.fnOf "parts_of" "parts_of" (bC jK) (bA jK) (aF jK) .none kV7 dc7 pm7 an7 cd7 ct7),sl7⟩) (c7:PySem.W.codeIn K cd7 "parts_of"=true) (k7:PySem.W.keepIn K (.ref f7)=true)
  (a8:PySem.W.nsIn K mainGlobals "parts"=some (some (.ref f8))) (l8:K.lookup f8=some ⟨oc8,od8,.func (PySem.W.fnOf "parts" "parts" (bC nJ) (bA nJ) (aF nJ) .none kV8 dc8 pm8 an8 cd8 ct8),sl8⟩) (c8:PySem.W.codeIn K cd8 "parts"=true) (k8:PySem.W.keepIn K (.ref f8)=true)
  (a9:PySem.W.nsIn K mainGlobals "without_turns"=some (some (.ref f9))) (l9:K.lookup f9=some ⟨oc9,od9,.func (PySem.W.fnOf "without_turns" "without_turns" (bC eN) (bA eN) (aF eN) .none kV9 dc9 pm9 an9 cd9 ct9),sl9⟩) (c9:PySem.W.codeIn K cd9 "without_turns"=true) (k9:PySem.W.keepIn K (.ref f9)=true)
  (a10:PySem.W.nsIn K mainGlobals "shut_turn"=some (some (.ref f10))) (l10:K.lookup f10=some ⟨oc10,od10,.func (PySem.W.fnOf "shut_turn" "shut_turn" (bC iK) (bA iK) (aF iK) .none kV10 dc10 pm10 an10 cd10 ct10),sl10⟩) (c10:PySem.W.codeIn K cd10 "shut_turn"=true) (k10:PySem.W.keepIn K (.ref f10)=true)
  (a11:PySem.W.nsIn K mainGlobals "opened_less"=some (some (.ref f11))) (l11:K.lookup f11=some ⟨oc11,od11,.func (PySem.W.fnOf "opened_less" "opened_less" (bC gF) (bA gF) (aF gF) .none kV11 dc11 pm11 an11 cd11 ct11),sl11⟩) (c11:PySem.W.codeIn K cd11 "opened_less"=true) (k11:PySem.W.keepIn K (.ref f11)=true)
  (a12:PySem.W.nsIn K mainGlobals "to_the_left"=some (some (.ref f12))) (l12:K.lookup f12=some ⟨oc12,od12,.func (PySem.W.fnOf "to_the_left" "to_the_left" (bC gG) (bA gG) (aF gG) .none kV12 dc12 pm12 an12 cd12 ct12),sl12⟩) (c12:PySem.W.codeIn K cd12 "to_the_left"=true) (k12:PySem.W.keepIn K (.ref f12)=true)
  (a13:PySem.W.nsIn K mainGlobals "to_the_right"=some (some (.ref f13))) (l13:K.lookup f13=some ⟨oc13,od13,.func (PySem.W.fnOf "to_the_right" "to_the_right" (bC fG) (bA fG) (aF fG) .none kV13 dc13 pm13 an13 cd13 ct13),sl13⟩) (c13:PySem.W.codeIn K cd13 "to_the_right"=true) (k13:PySem.W.keepIn K (.ref f13)=true)
  (a14:PySem.W.nsIn K mainGlobals "turned_about"=some (some (.ref f14))) (l14:K.lookup f14=some ⟨oc14,od14,.func (PySem.W.fnOf "turned_about" "turned_about" (bC fK) (bA fK) (aF fK) .none kV14 dc14 pm14 an14 cd14 ct14),sl14⟩) (c14:PySem.W.codeIn K cd14 "turned_about"=true) (k14:PySem.W.keepIn K (.ref f14)=true)
  (a15:PySem.W.nsIn K mainGlobals "changed"=some (some (.ref f15))) (l15:K.lookup f15=some ⟨oc15,od15,.func (PySem.W.fnOf "changed" "changed" (bC kI) (bA kI) (aF kI) .none kV15 dc15 pm15 an15 cd15 ct15),sl15⟩) (c15:PySem.W.codeIn K cd15 "changed"=true) (k15:PySem.W.keepIn K (.ref f15)=true)
  (a16:PySem.W.nsIn K mainGlobals "put_at"=some (some (.ref f16))) (l16:K.lookup f16=some ⟨oc16,od16,.func (PySem.W.fnOf "put_at" "put_at" (bC lQ) (bA lQ) (aF lQ) .none kV16 dc16 pm16 an16 cd16 ct16),sl16⟩) (c16:PySem.W.codeIn K cd16 "put_at"=true) (k16:PySem.W.keepIn K (.ref f16)=true)
  (a17:PySem.W.nsIn K mainGlobals "shape_at"=some (some (.ref f17))) (l17:K.lookup f17=some ⟨oc17,od17,.func (PySem.W.fnOf "shape_at" "shape_at" (bC jI) (bA jI) (aF jI) .none kV17 dc17 pm17 an17 cd17 ct17),sl17⟩) (c17:PySem.W.codeIn K cd17 "shape_at"=true) (k17:PySem.W.keepIn K (.ref f17)=true)
  (a18:PySem.W.nsIn K mainGlobals "tree_at"=some (some (.ref f18))) (l18:K.lookup f18=some ⟨oc18,od18,.func (PySem.W.fnOf "tree_at" "tree_at" (bC kM) (bA kM) (aF kM) .none kV18 dc18 pm18 an18 cd18 ct18),sl18⟩) (c18:PySem.W.codeIn K cd18 "tree_at"=true) (k18:PySem.W.keepIn K (.ref f18)=true)
  (a19:PySem.W.nsIn K mainGlobals "is_place"=some (some (.ref f19))) (l19:K.lookup f19=some ⟨oc19,od19,.func (PySem.W.fnOf "is_place" "is_place" (bC jN) (bA jN) (aF jN) .none kV19 dc19 pm19 an19 cd19 ct19),sl19⟩) (c19:PySem.W.codeIn K cd19 "is_place"=true) (k19:PySem.W.keepIn K (.ref f19)=true)
  (a20:PySem.W.nsIn K mainGlobals "come_by"=some (some (.ref f20))) (l20:K.lookup f20=some ⟨oc20,od20,.func (PySem.W.fnOf "come_by" "come_by" (bC kO) (bA kO) (aF kO) .none kV20 dc20 pm20 an20 cd20 ct20),sl20⟩) (c20:PySem.W.codeIn K cd20 "come_by"=true) (k20:PySem.W.keepIn K (.ref f20)=true)
  (a21:PySem.W.nsIn K mainGlobals "exchanged"=some (some (.ref f21))) (l21:K.lookup f21=some ⟨oc21,od21,.func (PySem.W.fnOf "exchanged" "exchanged" (bC iO) (bA iO) (aF iO) .none kV21 dc21 pm21 an21 cd21 ct21),sl21⟩) (c21:PySem.W.codeIn K cd21 "exchanged"=true) (k21:PySem.W.keepIn K (.ref f21)=true)
  (a22:PySem.W.nsIn K mainGlobals "_law_feed"=some (some (.ref f22))) (l22:K.lookup f22=some ⟨oc22,od22,.func (PySem.W.fnOf "_law_feed" "_law_feed" (bC jG) (bA jG) (aF jG) .none kV22 dc22 pm22 an22 cd22 ct22),sl22⟩) (c22:PySem.W.codeIn K cd22 "_law_feed"=true) (k22:PySem.W.keepIn K (.ref f22)=true)
  (a23:PySem.W.nsIn K mainGlobals "_law_take"=some (some (.ref f23))) (l23:K.lookup f23=some ⟨oc23,od23,.func (PySem.W.fnOf "_law_take" "_law_take" (bC jR) (bA jR) (aF jR) .none kV23 dc23 pm23 an23 cd23 ct23),sl23⟩) (c23:PySem.W.codeIn K cd23 "_law_take"=true) (k23:PySem.W.keepIn K (.ref f23)=true)
  (a24:PySem.W.nsIn K mainGlobals "_law_unlike"=some (some (.ref f24))) (l24:K.lookup f24=some ⟨oc24,od24,.func (PySem.W.fnOf "_law_unlike" "_law_unlike" (bC gX) (bA gX) (aF gX) .none kV24 dc24 pm24 an24 cd24 ct24),sl24⟩) (c24:PySem.W.codeIn K cd24 "_law_unlike"=true) (k24:PySem.W.keepIn K (.ref f24)=true)
  (a25:PySem.W.nsIn K mainGlobals "_law_whole"=some (some (.ref f25))) (l25:K.lookup f25=some ⟨oc25,od25,.func (PySem.W.fnOf "_law_whole" "_law_whole" (bC iN) (bA iN) (aF iN) .none kV25 dc25 pm25 an25 cd25 ct25),sl25⟩) (c25:PySem.W.codeIn K cd25 "_law_whole"=true) (k25:PySem.W.keepIn K (.ref f25)=true)
  (a26:PySem.W.nsIn K mainGlobals "_law_tree"=some (some (.ref f26))) (l26:K.lookup f26=some ⟨oc26,od26,.func (PySem.W.fnOf "_law_tree" "_law_tree" (bC hU) (bA hU) (aF hU) .none kV26 dc26 pm26 an26 cd26 ct26),sl26⟩) (c26:PySem.W.codeIn K cd26 "_law_tree"=true) (k26:PySem.W.keepIn K (.ref f26)=true)
  (a27:PySem.W.nsIn K mainGlobals "_law_web"=some (some (.ref f27))) (l27:K.lookup f27=some ⟨oc27,od27,.func (PySem.W.fnOf "_law_web" "_law_web" (bC kN) (bA kN) (aF kN) .none kV27 dc27 pm27 an27 cd27 ct27),sl27⟩) (c27:PySem.W.codeIn K cd27 "_law_web"=true) (k27:PySem.W.keepIn K (.ref f27)=true)
  (a28:PySem.W.nsIn K mainGlobals "_law_size"=some (some (.ref f28))) (l28:K.lookup f28=some ⟨oc28,od28,.func (PySem.W.fnOf "_law_size" "_law_size" (bC iB) (bA iB) (aF iB) .none kV28 dc28 pm28 an28 cd28 ct28),sl28⟩) (c28:PySem.W.codeIn K cd28 "_law_size"=true) (k28:PySem.W.keepIn K (.ref f28)=true)
  (a29:PySem.W.nsIn K mainGlobals "_law_deep"=some (some (.ref f29))) (l29:K.lookup f29=some ⟨oc29,od29,.func (PySem.W.fnOf "_law_deep" "_law_deep" (bC iE) (bA iE) (aF iE) .none kV29 dc29 pm29 an29 cd29 ct29),sl29⟩) (c29:PySem.W.codeIn K cd29 "_law_deep"=true) (k29:PySem.W.keepIn K (.ref f29)=true)
  (a30:PySem.W.nsIn K mainGlobals "_law_spots"=some (some (.ref f30))) (l30:K.lookup f30=some ⟨oc30,od30,.func (PySem.W.fnOf "_law_spots" "_law_spots" (bC gS) (bA gS) (aF gS) .none kV30 dc30 pm30 an30 cd30 ct30),sl30⟩) (c30:PySem.W.codeIn K cd30 "_law_spots"=true) (k30:PySem.W.keepIn K (.ref f30)=true)
  (a31:PySem.W.nsIn K mainGlobals "_law_at"=some (some (.ref f31))) (l31:K.lookup f31=some ⟨oc31,od31,.func (PySem.W.fnOf "_law_at" "_law_at" (bC lU) (bA lU) (aF lU) .none kV31 dc31 pm31 an31 cd31 ct31),sl31⟩) (c31:PySem.W.codeIn K cd31 "_law_at"=true) (k31:PySem.W.keepIn K (.ref f31)=true)
  (a32:PySem.W.nsIn K mainGlobals "_law_with"=some (some (.ref f32))) (l32:K.lookup f32=some ⟨oc32,od32,.func (PySem.W.fnOf "_law_with" "_law_with" (bC iF) (bA iF) (aF iF) .none kV32 dc32 pm32 an32 cd32 ct32),sl32⟩) (c32:PySem.W.codeIn K cd32 "_law_with"=true) (k32:PySem.W.keepIn K (.ref f32)=true)
  (a33:PySem.W.nsIn K mainGlobals "_law_otherwise"=some (some (.ref f33))) (l33:K.lookup f33=some ⟨oc33,od33,.func (PySem.W.fnOf "_law_otherwise" "_law_otherwise" (bC eO) (bA eO) (aF eO) .none kV33 dc33 pm33 an33 cd33 ct33),sl33⟩) (c33:PySem.W.codeIn K cd33 "_law_otherwise"=true) (k33:PySem.W.keepIn K (.ref f33)=true)
  (a34:PySem.W.nsIn K mainGlobals "_law_all"=some (some (.ref f34))) (l34:K.lookup f34=some ⟨oc34,od34,.func (PySem.W.fnOf "_law_all" "_law_all" (bC kL) (bA kL) (aF kL) .none kV34 dc34 pm34 an34 cd34 ct34),sl34⟩) (c34:PySem.W.codeIn K cd34 "_law_all"=true) (k34:PySem.W.keepIn K (.ref f34)=true)
  (a35:PySem.W.nsIn K mainGlobals "_law_row"=some (some (.ref f35))) (l35:K.lookup f35=some ⟨oc35,od35,.func (PySem.W.fnOf "_law_row" "_law_row" (bC kK) (bA kK) (aF kK) .none kV35 dc35 pm35 an35 cd35 ct35),sl35⟩) (c35:PySem.W.codeIn K cd35 "_law_row"=true) (k35:PySem.W.keepIn K (.ref f35)=true)
  (a36:PySem.W.nsIn K mainGlobals "_law_chain"=some (some (.ref f36))) (l36:K.lookup f36=some ⟨oc36,od36,.func (PySem.W.fnOf "_law_chain" "_law_chain" (bC iL) (bA iL) (aF iL) .none kV36 dc36 pm36 an36 cd36 ct36),sl36⟩) (c36:PySem.W.codeIn K cd36 "_law_chain"=true) (k36:PySem.W.keepIn K (.ref f36)=true)
  (a37:PySem.W.nsIn K mainGlobals "_law_great"=some (some (.ref f37))) (l37:K.lookup f37=some ⟨oc37,od37,.func (PySem.W.fnOf "_law_great" "_law_great" (bC iP) (bA iP) (aF iP) .none kV37 dc37 pm37 an37 cd37 ct37),sl37⟩) (c37:PySem.W.codeIn K cd37 "_law_great"=true) (k37:PySem.W.keepIn K (.ref f37)=true)
  (a38:PySem.W.nsIn K mainGlobals "_law_done"=some (some (.ref f38))) (l38:K.lookup f38=some ⟨oc38,od38,.func (PySem.W.fnOf "_law_done" "_law_done" (bC jM) (bA jM) (aF jM) .none kV38 dc38 pm38 an38 cd38 ct38),sl38⟩) (c38:PySem.W.codeIn K cd38 "_law_done"=true) (k38:PySem.W.keepIn K (.ref f38)=true)
  (a39:PySem.W.nsIn K mainGlobals "_law_things"=some (some (.ref f39))) (l39:K.lookup f39=some ⟨oc39,od39,.func (PySem.W.fnOf "_law_things" "_law_things" (bC g6) (bA g6) (aF g6) .none kV39 dc39 pm39 an39 cd39 ct39),sl39⟩) (c39:PySem.W.codeIn K cd39 "_law_things"=true) (k39:PySem.W.keepIn K (.ref f39)=true)
  (a40:PySem.W.nsIn K mainGlobals "law"=some (some (.ref f40))) (l40:K.lookup f40=some ⟨oc40,od40,.func (PySem.W.fnOf "law" "law" (bC nA) (bA nA) (aF nA) .none kV40 dc40 pm40 an40 cd40 ct40),sl40⟩) (c40:PySem.W.codeIn K cd40 "law"=true) (k40:PySem.W.keepIn K (.ref f40)=true)
  (e0:PySem.W.nsIn K mainGlobals "LETTERS"=some (some (.str (Ab) tk0)))
  (e1:PySem.W.nsIn K mainGlobals "LONGEST_NAME"=some (some (.int (8) tk1)))
  (e2:PySem.W.nsIn K mainGlobals "GREATEST"=some (some (.int (1000000000000000000) tk2)))
  (e3:PySem.W.nsIn K mainGlobals "TREE_PIECES"=some (some (.int (200) tk3)))
  (e4:PySem.W.nsIn K mainGlobals "TREE_WITHIN"=some (some (.int (40) tk4)))
  {dt0:Addr} (ta0:PySem.W.nsIn K mainGlobals "SIGNS"=some (some (.ref dt0))) (tb0:KTD.tabLook KTD.flatLooks (fun b=>K.lookup b) dt0 (yQ eJ)=true) (tc0:KTD.hashesOf (fun b=>K.lookup b) dt0=(yQ eJ).map fun p=>(PySem.strKind l.prog w).hash p.1)
  {du0:Addr} {nu0:Nat} {su0:Array (Option Value)} {wu0_0 wu0_1 wu0_2 wu0_3 wu0_4 wu0_5:Tok}
  (ua0:PySem.W.nsIn K mainGlobals "WORDS"=some (some (.ref du0))) (ub0:K.lookup du0=some ⟨.type "tuple",none,.seq #[.str "swap" wu0_0,.str "right" wu0_1,.str "left" wu0_2,.str "open" wu0_3,.str "shut" wu0_4,.str "off" wu0_5] nu0,su0⟩)
  (z0:PySem.W.nsIn K mainGlobals "len"=some none)
  (z1:PySem.W.nsIn K mainGlobals "isinstance"=some none)
  (z2:PySem.W.nsIn K mainGlobals "str"=some none)
  (z3:PySem.W.nsIn K mainGlobals "max"=some none)
  (z4:PySem.W.nsIn K mainGlobals "min"=some none)
  (z5:PySem.W.nsIn K mainGlobals "range"=some none)
  (z6:PySem.W.nsIn K mainGlobals "tuple"=some none)
  (z7:PySem.W.nsIn K mainGlobals "list"=some none)
  (z8:PySem.W.nsIn K mainGlobals "int"=some none)
  (z9:PySem.W.nsIn K mainGlobals "bool"=some none)
  (z10:PySem.W.nsIn K mainGlobals "all"=some none)
  (z11:PySem.W.nsIn K mainGlobals "zip"=some none)
  (z12:PySem.W.nsIn K mainGlobals "reversed"=some none)
  (z13:PySem.W.nsIn K mainGlobals "enumerate"=some none)
  (z14:PySem.W.nsIn K mainGlobals "sum"=some none)
  (z15:PySem.W.nsIn K mainGlobals "ValueError"=some none)
  (x1:PySem.W.nsIn K mainGlobals "NoExchange"=some (some (.ref cNE)))
  (x2:PySem.W.nsIn K mainGlobals "RowsmithError"=some (some (.ref cRE)))
  (x3:PySem.W.nsIn K mainGlobals "NoLine"=some (some (.ref aL)))
  (x4:PySem.W.nsIn K mainGlobals "NoName"=some (some (.ref aN)))
  (x5:PySem.W.nsIn K mainGlobals "NoRow"=some (some (.ref aR)))
  (x6:PySem.W.nsIn K mainGlobals "NoText"=some (some (.ref aT)))
  (x7:PySem.W.nsIn K mainGlobals "NotRight"=some (some (.ref aG)))
  (x8:PySem.W.nsIn K mainGlobals "TooMany"=some (some (.ref aM)))
  (x9:K.lookup cNE=some (excClassObj xnm xqq cNE xN xbs (oU cRE) true xsn xsub xab xcol xdd xk0 xk1 xk2 xk3 xk5 "ValueError.__new__"))
  (x10:PySem.W.findIn K (.ref cNE) "__init__"=some (some (.ref fI)))
  (x11:PySem.W.isFn K (.ref fI)=true)
  (x12:PySem.W.keepIn K (.ref cNE)=true)
  (x13:PySem.W.findIn K (.ref cNE) "__setattr__"=some (some (.builtin "object.__setattr__")))
  (x14:PySem.W.findIn K (.ref cNE) "__getattribute__"=some (some (.builtin "BaseException.__getattribute__")))
  (x15:PySem.W.findIn K (.ref cNE) "__getattr__"=some none)
  (x16:PySem.W.findIn K (.ref cNE) "__class__"=some (some (.builtin "object.__class__")))
  (x17:PySem.W.findIn K (.ref cNE) "text"=some none)
  (x18:PySem.W.readsIn K cRE (.type "type")=true)
  (x19:PySem.W.findCls K (.ref cRE) (.type "type") "__init__"=some (.val (.builtin "ValueError.__init__")))
  (x20:PySem.W.specialIn K (.ref cRE) "__getattribute__"=some (some (.builtin "type.__getattribute__")))
  (x21:K.lookup fI=some ⟨xoc,xod,.func (PySem.W.fnOf "__init__" "NoExchange.__init__" (bC qT) (bA qT) (aF qT) .none xkV xdoc xpm xan xcdv xct),xosl⟩)
  (x22:PySem.W.codeIn K xcdv "NoExchange.__init__"=true)
  (x23:PySem.W.keepIn K (.ref fI)=true)
  (x24:PySem.W.typeIn K (.ref cRE)=some (.type "type"))
  (x25:(PySem.W.clsIn K cRE).isSome=true)
  (x26:PySem.W.subIn K (.ref cRE) (.type "BaseException")=some true)
  (x27:PySem.W.subIn K (.ref cNE) (.ref cRE)=some true)
  (x28:PySem.W.kitOne K (.ref cNE) (.ref cNE)=some true)
  (x29:PySem.W.kitOne K (.ref cNE) (.type "ValueError")=some true)
  (x30:PySem.W.kitAny K (.ref cNE) [.ref aL,.ref aN,.ref aR,.ref aT,.ref aG,.ref aM]=some false)
  : ∃ fd:FuncData,(∀ (s:Shared) (v:Value),BindsTo s fd ⟨[v],[]⟩ [("script",v)])/\∀ base:Heap,K.In base->base.Ns mainGlobals mg->dX l.prog w K mg base j6 52 fa fd ["script"] (gL K xY):=by
 have e:=hfa.symm.trans (PySem.W.mg_of X G a40)
 cases e
 have L9:=bO (st:=kP) l0 c0 k0
 have K2:=PySem.W.mg_of X G a0
 have Hc:=bO (st:=jL) l1 c1 k1
 have HJ:=PySem.W.mg_of X G a1
 have y0:=bO (st:=fJ) l2 c2 k2
 have lR:=PySem.W.mg_of X G a2
 have MN:=bO (st:=kR) l3 c3 k3
 have Mc:=PySem.W.mg_of X G a3
 have LN:=bO (st:=kJ) l4 c4 k4
 have Na:=PySem.W.mg_of X G a4
 have DD:=bO (st:=iV) l5 c5 k5
 have EX:=PySem.W.mg_of X G a5
 have JD:=bO (st:=jF) l6 c6 k6
 have G9:=PySem.W.mg_of X G a6
 have IB:=bO (st:=jK) l7 c7 k7
 have G7:=PySem.W.mg_of X G a7
 have Q3:=bO (st:=nJ) l8 c8 k8
 have Rh:=PySem.W.mg_of X G a8
 have wQ:=bO (st:=eN) l9 c9 k9
 have wB:=PySem.W.mg_of X G a9
 have E3:=bO (st:=iK) l10 c10 k10
 have oZ:=PySem.W.mg_of X G a10
 have AF:=bO (st:=gF) l11 c11 k11
 have Aw:=PySem.W.mg_of X G a11
 have Ao:=bO (st:=gG) l12 c12 k12
 have AH:=PySem.W.mg_of X G a12
 have yR:=bO (st:=fG) l13 c13 k13
 have zC:=PySem.W.mg_of X G a13
 have zA:=bO (st:=fK) l14 c14 k14
 have yU:=PySem.W.mg_of X G a14
 have K3:=bO (st:=kI) l15 c15 k15
 have LL:=PySem.W.mg_of X G a15
 have Om:=bO (st:=lQ) l16 c16 k16
 have Ot:=PySem.W.mg_of X G a16
 have HD:=bO (st:=jI) l17 c17 k17
 have JC:=PySem.W.mg_of X G a17
 have Nj:=bO (st:=kM) l18 c18 k18
 have Lx:=PySem.W.mg_of X G a18
 have Hl:=bO (st:=jN) l19 c19 k19
 have JG:=PySem.W.mg_of X G a19
 have Lp:=bO (st:=kO) l20 c20 k20
 have Mk:=PySem.W.mg_of X G a20
 have DI:=bO (st:=iO) l21 c21 k21
 have Fw:=PySem.W.mg_of X G a21
 have IP:=bO (st:=jG) l22 c22 k22
 have J7:=PySem.W.mg_of X G a22
 have Iu:=bO (st:=jR) l23 c23 k23
 have Ib:=PySem.W.mg_of X G a23
 have Cr:=bO (st:=gX) l24 c24 k24
 have Cb:=PySem.W.mg_of X G a24
 have FN:=bO (st:=iN) l25 c25 k25
 have FP:=PySem.W.mg_of X G a25
 have Ka:=bO (st:=hU) l26 c26 k26
 have Ht:=PySem.W.mg_of X G a26
 have NB:=bO (st:=kN) l27 c27 k27
 have MK:=PySem.W.mg_of X G a27
 have HI:=bO (st:=iB) l28 c28 k28
 have IA:=PySem.W.mg_of X G a28
 have HM:=bO (st:=iE) l29 c29 k29
 have Kt:=PySem.W.mg_of X G a29
 have FR:=bO (st:=gS) l30 c30 k30
 have Dy:=PySem.W.mg_of X G a30
 have O5:=bO (st:=lU) l31 c31 k31
 have Ow:=PySem.W.mg_of X G a31
 have J5:=bO (st:=iF) l32 c32 k32
 have HK:=PySem.W.mg_of X G a32
 have xX:=bO (st:=eO) l33 c33 k33
 have wV:=PySem.W.mg_of X G a33
 have Mr:=bO (st:=kL) l34 c34 k34
 have Lz:=PySem.W.mg_of X G a34
 have MH:=bO (st:=kK) l35 c35 k35
 have MW:=PySem.W.mg_of X G a35
 have E9:=bO (st:=iL) l36 c36 k36
 have Dw:=PySem.W.mg_of X G a36
 have FE:=bO (st:=iP) l37 c37 k37
 have Ej:=PySem.W.mg_of X G a37
 have IQ:=bO (st:=jM) l38 c38 k38
 have HY:=PySem.W.mg_of X G a38
 have CU:=bO (st:=g6) l39 c39 k39
 have BL:=PySem.W.mg_of X G a39
 have VJ:=bO (st:=nA) l40 c40 k40
 have W7:=PySem.W.mg_of X G a40
 have sI:=PySem.W.mg_of X G e0
 have lM:=PySem.W.mg_of X G e1
 have rP:=PySem.W.mg_of X G e2
 have mS:=PySem.W.mg_of X G e3
 have mT:=PySem.W.mg_of X G e4
 have lV:=PySem.W.mg_of X G ta0
 have lN:rJ l.prog w K dt0 eJ:=tab_of (by decide +kernel) tb0 tc0
 have yX:=PySem.W.mg_of X G ua0
 have yS:KT K du0 (sU.map V.str):=⟨_,_,_,ub0,rfl,rfl,rfl,(show (6:Nat)<=sizeLine by decide),(.cons ⟨_,rfl⟩ (.cons ⟨_,rfl⟩ (.cons ⟨_,rfl⟩ (.cons ⟨_,rfl⟩ (.cons ⟨_,rfl⟩ (.cons ⟨_,rfl⟩ .nil))))))⟩
 have bT:=PySem.W.mg_none_of X G z0
 have aP:=PySem.W.mg_none_of X G z1
 have uJ:=PySem.W.mg_none_of X G z2
 have nD:=PySem.W.mg_none_of X G z3
 have Hz:=PySem.W.mg_none_of X G z4
 have cU:=PySem.W.mg_none_of X G z5
 have bN:=PySem.W.mg_none_of X G z6
 have Bw:=PySem.W.mg_none_of X G z7
 have uB:=PySem.W.mg_none_of X G z8
 have pI:=PySem.W.mg_none_of X G z9
 have Io:=PySem.W.mg_none_of X G z10
 have JR:=PySem.W.mg_none_of X G z11
 have qG:=PySem.W.mg_none_of X G z12
 have iS:=PySem.W.mg_none_of X G z13
 have uL:=PySem.W.mg_none_of X G z14
 have AW:=PySem.W.mg_none_of X G z15
 refine ⟨PySem.W.fnOf "law" "law" (bC nA) (bA nA) (aF nA) .none kV40 dc40 pm40 an40 cd40 ct40,fun s v=>.of_eq rfl,fun base _ _=>?_⟩
 have i0:=Ff (P:=l.prog) (w:=w) (base:=base) JD G9 aP uB pI
 have i1:=CY DD EX rP i0
 have i2:=Jv (P:=l.prog) (w:=w) (base:=base) LN Na aP bN bT uJ lN lV
 have i3:=Ij (P:=l.prog) (w:=w) (base:=base) MN Mc bT aP uJ Io sI lM
 have i4:=w4 y0 aP bN bT i1 i3
 have i5:=DS Hc HJ i2 i4
 have i6:=Ia L9 K2 lR mS mT i5
 have p0:=DU (P:=l.prog) (w:=w) (base:=base) IB G7 lN lV
 have p1:=N4 Q3 Rh p0
 have p2:=IK K3 LL (xV (P:=l.prog) (w:=w) (base:=base) zA yU) (wR yR zC) (yT Ao AH) (yI AF Aw) (Dh E3 oZ) (vP wQ wB)
 have p3:=MP Om Ot Bw JR qG p1
 have p6:=IZ Nj Lx (Ds HD JC p0)
 have p7:=Fg Hl JG aP bN bT i0 p1
 have p8:=IT Lp Mk aP bN bT yS yX p7 p2 p6 p3 i6
 have vR:=PySem.W.mg_of X G x2
 have vC:=PySem.W.mg_of X G x1
 have cc:oY K cNE cRE fI:=⟨⟨_,_,_,_,_,_,_,_,_,_,_,_,_,_,x9⟩,x10,x11,x12,x13⟩
 have cg:n6 K cNE cRE fI:=⟨cc,x14,x15,x16⟩
 have ex:=SQ (P:=l.prog) (w:=w) (base:=base) (bO (st:=qT) x21 x22 x23) vR vC ⟨x18,x19,x20⟩ cg x17
 have p9:=BY (by decide) DI Fw p8 ex trivial
 have p10:=QK IQ HY aP AW p9 vR vC (PySem.W.mg_of X G x3) (PySem.W.mg_of X G x4) (PySem.W.mg_of X G x5) (PySem.W.mg_of X G x6) (PySem.W.mg_of X G x7) (PySem.W.mg_of X G x8) ⟨x24,x25,x26⟩ ⟨_,_,cg⟩ x27 x28 x29 x30
 have q0:=Ct (P:=l.prog) (w:=w) (base:=base) HI IA uL aP bN 50
 have q1:=BN (P:=l.prog) (w:=w) (base:=base) HM Kt nD aP bN 50
 have q2:=Vt (P:=l.prog) (w:=w) (base:=base) O5 Ow
 have q3:=Bf (P:=l.prog) (w:=w) (base:=base) J5 HK bT 50
 have q4:=zI (P:=l.prog) (w:=w) (base:=base) FR Dy iS aP bN 50
 have q5:=Ug (P:=l.prog) (w:=w) (base:=base) xX wV
 have q6:=S4 Mr Lz q4 q5 q2 q3 q0 q1
 have t0:=Su (P:=l.prog) (w:=w) (base:=base) Iu Ib
 have t1:=R9 (P:=l.prog) (w:=w) (base:=base) IP J7 bT
 have t2:=Nd Cr Cb cU t0
 have t3:=Bu Ka Ht bT t0 10
 have t4:=TF NB MK cU bN t0 t2 t3
 have t5:=NY (P:=l.prog) (w:=w) (base:=base) E9 Dw cU
 have t6:=Ul (P:=l.prog) (w:=w) (base:=base) MH MW cU bT
 have t7:=Pj FE Ej t0 t6 t5
 have t8:=Lw CU BL cU bT q4 t0
 have t9:=Lg (P:=l.prog) (w:=w) (base:=base) FN FP aP uB pI
 exact TZ VJ cU nD Hz bT aP bN t1 t0 t4 t7 q6 p10 t8 t9
theorem walk {l:PySem.W.OpenLaw} {q:Program} {loose:List Str} {XP:(Str->Option Value)->Heap->Prop} {YP:World->Heap->Prop} {d:DefRec} {K:Params->PySem.W.Frag} (hn:l.most=some 63) (hdf:d.params.defaults=[])
  (hY:∀ (w:World) (h:Heap),YP w h->(K w.params).In h)
  (F:∀ (w:World) (mg:Str->Option Value) (fa:Addr) (h:Heap),(K w.params).In h->h.Ns mainGlobals mg->mg d.name=some (.ref fa) ->
   ∃ fd:FuncData,(∀ (s:Shared) (u:Value),BindsTo s fd ⟨[u],[]⟩ [("script",u)])/\∀ base:Heap,(K w.params).In base->base.Ns mainGlobals mg->dX l.prog w (K w.params) mg base j6 52 fa fd ["script"] (gL (K w.params) xY)) :
  PySem.W.WalkO q loose XP YP l.row.toRowW d [] (fun f vs=>PySem.call f vs) :=
 L2.Rv (n:=63) (k:=52) (x:="script") (CX:=fun _=>j6) (sp:=fun w=>gL (K w.params) xY) hn (by decide) hdf ⟨rfl,by decide,by decide⟩ hY F (fun _ _ a ns hl _ hS=>Nq hl hS) fun _ _ _ _ _ z=>z
end K86
namespace PySem.W.Fast
def tw10006589126459734887:=0
def tw10026591034549507616:=0
def tw10103424060897247532:=0
def tw1011071379026886846:=0
def tw10154429761720014958:=0
def tw10175859532718264056:=0
def tw1018605498050170835:=0
def tw10201976023548896725:=0
def tw10290625934748471231:=0
def tw10322736930181842390:=0
def tw10334345140939815508:=0
def tw10359470276598913239:=0
def tw10369495703682554749:=0
def tw10428810995856962686:=0
def tw10474693561405089162:=0
def tw10549144986204013647:=0
def tw10561875616724757089:=0
def tw10574109561106119317:=0
def tw10593294621653122943:=0
def tw10697573602749276005:=0
def tw10757771694283220265:=0
def tw10761889694671202959:=0
def tw10768138874898733213:=0
def tw10801953679374557389:=0
def tw1082880287642344321:=0
def tw10912789891252685632:=0
def tw11015016334393523521:=0
def tw11114520091756005228:=0
def tw111260175422081829:=0
def tw11164230338110725967:=0
def tw11164354589729379029:=0
def tw11177356432203625298:=0
def tw11214216059990922244:=0
def tw11215885287905766774:=0
def tw11229216897430446649:=0
def tw11244489859699005776:=0
def tw11253102337643321174:=0
def tw11311926885192761890:=0
def tw11345222065336302211:=0
def tw11381638393143822590:=0
def tw11396998061044154291:=0
def tw11502892616645789509:=0
def tw11504010014546254904:=0
def tw11616779474572283960:=0
def tw11626093814985258163:=0
def tw1169602367949617539:=0
def tw11720375361418264442:=0
def tw11761120824218594721:=0
def tw11779086015617675633:=0
def tw11794663836939825670:=0
def tw11858681444661723467:=0
def tw11884818265858408083:=0
def tw1193361744941298118:=0
def tw11934792351872027486:=0
def tw11945331747811167742:=0
def tw12002597496996710463:=0
def tw12118737049410737126:=0
def tw12196690219042276972:=0
def tw12205331087377043073:=0
def tw12296413811393260379:=0
def tw12329469154925748542:=0
def tw12336254967452727886:=0
def tw12351158889660766905:=0
def tw12373576914556332333:=0
def tw12404873472697948574:=0
def tw12408275437904127142:=0
def tw12438628472738607210:=0
def tw12443812667720161028:=0
def tw12502232419955205355:=0
def tw12599839967302653290:=0
def tw12684652529186364664:=0
def tw1274003878808082704:=0
def tw12792575541437753783:=0
def tw12883125122219784323:=0
def tw12912073195160819230:=0
def tw13040657065580320879:=0
def tw13092472545958546215:=0
def tw13150923334050729049:=0
def tw13152826495307046453:=0
def tw1317792361737474916:=0
def tw13183752393423563472:=0
def tw13219372307970398188:=0
def tw1325303167286518777:=0
def tw13276050892674232086:=0
def tw13276219480773455391:=0
def tw13380022947216829437:=0
def tw13399230539815729672:=0
def tw133997920461232475:=0
def tw13434174598612572141:=0
def tw13448943387471987060:=0
def tw13485123136214449519:=0
def tw13562951386187824221:=0
def tw13565941323238475542:=0
def tw13576870029292136007:=0
def tw13695550040464111959:=0
def tw13699974583875534983:=0
def tw13746244310034790928:=0
def tw13869894601988005945:=0
def tw13874756636773098212:=0
def tw13881625084275109986:=0
def tw14019439022284461967:=0
def tw14107227995582384587:=0
def tw14122631589436089282:=0
def tw14137976190593861545:=0
def tw14140924201500503210:=0
def tw14149130347618342419:=0
def tw14163617721433371559:=0
def tw14170323098650654015:=0
def tw14205153291687045100:=0
def tw14235375012532145879:=0
def tw14265161320320773987:=0
def tw14383346292714434271:=0
def tw14402171183855159043:=0
def tw1445075867367513075:=0
def tw14458847021142275593:=0
def tw14660157109663777002:=0
def tw14707377385964815568:=0
def tw14762757945772771786:=0
def tw14776210500403314735:=0
def tw14802052821038670560:=0
def tw14804030064686823395:=0
def tw14813984185462657660:=0
def tw14826424403157035860:=0
def tw14826629227828286077:=0
def tw1483832077164102943:=0
def tw14939333524446327404:=0
def tw15002374268480406158:=0
def tw15043254296172661932:=0
def tw15063908503043167995:=0
def tw15154873096583533310:=0
def tw15179296789566159855:=0
def tw15252223552649888378:=0
def tw15257362955493900260:=0
def tw15297169567600120889:=0
def tw15330912870022136676:=0
def tw15362738757777978784:=0
def tw15370705181015939631:=0
def tw15388580230183555030:=0
def tw15427834434347457835:=0
def tw15431849462282001117:=0
def tw15642481184116199410:=0
def tw15648990090608387846:=0
def tw15652955748110421880:=0
def tw15660939968743766503:=0
def tw15706204421257154673:=0
def tw15728079441259606828:=0
def tw15781464547439762362:=0
def tw15837258359480272148:=0
def tw15875748507936407704:=0
def tw15978357983998875514:=0
def tw15996438487242374233:=0
def tw16008125991905893445:=0
def tw16163097826336477324:=0
def tw16175575886199879643:=0
def tw16255196566901198283:=0
def tw16324700721338859147:=0
def tw16335440704823164405:=0
def tw16360652879284101761:=0
def tw1638721828917897416:=0
def tw16456090349318345757:=0
def tw1647118294789322527:=0
def tw16488468023347818282:=0
def tw16491471249065309056:=0
def tw16512015277050967804:=0
def tw16519503624841009671:=0
def tw1654107260253777874:=0
def tw1654607242651246804:=0
def tw16586863624415434150:=0
def tw16591815355588466825:=0
def tw16666523485523427178:=0
def tw16798006760493684439:=0
def tw16889506941795518670:=0
def tw16916261920343177518:=0
def tw16919002574875852505:=0
def tw16927446316085552763:=0
def tw16945647955357324429:=0
def tw17019551694661006051:=0
def tw17067288698457959192:=0
def tw17136219843731396726:=0
def tw17238072126321790640:=0
def tw17328727421060157383:=0
def tw17335418391720410389:=0
def tw17404097189838041241:=0
def tw17456920903429613616:=0
def tw17462700127967325655:=0
def tw17680664738849454913:=0
def tw17690488328810010577:=0
def tw17692718933288926302:=0
def tw17711380475693572561:=0
def tw17719982330591245623:=0
def tw17729036133093658624:=0
def tw1782778300218359198:=0
def tw17836935223566331175:=0
def tw17879860545886751759:=0
def tw17960390960284766195:=0
def tw18048812243258323894:=0
def tw18059115598976127657:=0
def tw18077620246326501143:=0
def tw18089648746726912855:=0
def tw18105609549815149008:=0
def tw18105746843476763242:=0
def tw18109295470094255484:=0
def tw18126360709388875053:=0
def tw18127046257512305879:=0
def tw18155457624737499246:=0
def tw18196964270372625676:=0
def tw182067147266883676:=0
def tw18335842182323296497:=0
def tw1840470989539739847:=0
def tw18410528378568978151:=0
def tw1924081423025681550:=0
def tw2029081558133802180:=0
def tw2051666304224254355:=0
def tw2054654562271706215:=0
def tw2077429005850835502:=0
def tw2128413665531955871:=0
def tw2179669576105172213:=0
def tw2234338560897369704:=0
def tw2242101160223168274:=0
def tw2253830564964723701:=0
def tw2277442763505357346:=0
def tw2282511866539538830:=0
def tw2349595522184168334:=0
def tw241366613545492499:=0
def tw245384417563240999:=0
def tw2563113746274719967:=0
def tw2574996012262610238:=0
def tw267384503900516804:=0
def tw2734060289770925199:=0
def tw2774348257840981139:=0
def tw2798181550190753918:=0
def tw2984016986881758645:=0
def tw3006421895929489827:=0
def tw3007270034933250395:=0
def tw3016028900338306470:=0
def tw3097079376588418098:=0
def tw3163913234119582435:=0
def tw3202452718578404206:=0
def tw3221256222697834822:=0
def tw3267242211887361393:=0
def tw3293107921009071640:=0
def tw3294992191378276525:=0
def tw3337693097473757972:=0
def tw3347707139561680034:=0
def tw3399210744428420543:=0
def tw3410865642244984242:=0
def tw3433017853140952656:=0
def tw3556273439100223107:=0
def tw3569344618097923678:=0
def tw360582794239848240:=0
def tw3617614658351999827:=0
def tw3641489879154093926:=0
def tw3661816249314282203:=0
def tw3723773130053440458:=0
def tw3750774493686179580:=0
def tw3805376611119724432:=0
def tw3828951861179430387:=0
def tw3849047876959494360:=0
def tw389407218284590445:=0
def tw3987403592136743:=0
def tw3991461984371474399:=0
def tw4029882741067353345:=0
def tw4080427972381115026:=0
def tw4114347877907044045:=0
def tw4144766002542605379:=0
def tw419967682585164154:=0
def tw4243125450196934135:=0
def tw4268624228682208563:=0
def tw4332122037086705800:=0
def tw4342856954543310745:=0
def tw4353791442732269304:=0
def tw4432808812098217862:=0
def tw4508423776595622997:=0
def tw4510404277476548478:=0
def tw4563210260075782094:=0
def tw4611300423334749200:=0
def tw4627987347597754195:=0
def tw4645521019938877677:=0
def tw4666870541653672839:=0
def tw468369608350725731:=0
def tw4714079539827504861:=0
def tw4745146170275110611:=0
def tw4836331807978890651:=0
def tw4900281701249703:=0
def tw4945350659974652705:=0
def tw5048222709031685174:=0
def tw5072753340564692683:=0
def tw5073280397964700172:=0
def tw507933029088784144:=0
def tw5164937543226584074:=0
def tw5226434323862910326:=0
def tw5405126641782158236:=0
def tw5424384497509819872:=0
def tw5449756718946246794:=0
def tw5527537130299255357:=0
def tw5551233688313171176:=0
def tw5582199009537147144:=0
def tw5586274417348805051:=0
def tw5672952737352071693:=0
def tw567448886819542144:=0
def tw5690832778760747074:=0
def tw570907300540954291:=0
def tw5711088916631581376:=0
def tw5725498906218378014:=0
def tw5769851979045721865:=0
def tw5777101992709930718:=0
def tw5854806990469351633:=0
def tw5873914142824439940:=0
def tw5878681599849894426:=0
def tw5879120964149432859:=0
def tw5948546895224637185:=0
def tw6013991688915813734:=0
def tw6163049027353100381:=0
def tw6265673934237393491:=0
def tw6288856689789444467:=0
def tw6317463887565151608:=0
def tw639315534670350502:=0
def tw6441556101630141662:=0
def tw647691839142781575:=0
def tw652136114967583775:=0
def tw6559088470738175540:=0
def tw657829150421869381:=0
def tw6591223268120789131:=0
def tw6621611647411885290:=0
def tw6647223644122675846:=0
def tw6672747136343734127:=0
def tw6685031719839887820:=0
def tw6726531909305381024:=0
def tw6765671674026569479:=0
def tw6770624858080340675:=0
def tw6793091298868735376:=0
def tw6804727489294673446:=0
def tw6899962299829506604:=0
def tw6909525335086411979:=0
def tw692411911290060176:=0
def tw6924486137341789420:=0
def tw695198452666610742:=0
def tw6964702778018980958:=0
def tw6968950525413119521:=0
def tw6987529678198962105:=0
def tw6999760819965004960:=0
def tw7007509203238934681:=0
def tw7144628622116055061:=0
def tw7169758234946730920:=0
def tw7258419586147239904:=0
def tw7324496432800909794:=0
def tw7331496935612762704:=0
def tw739848903455060809:=0
def tw742945048981551549:=0
def tw7511556882011253642:=0
def tw7526539541326413315:=0
def tw7534167268205989816:=0
def tw7543485200412958976:=0
def tw757193282259401559:=0
def tw7607483240364148590:=0
def tw770892952162758618:=0
def tw7738409835325845035:=0
def tw7789743462291258750:=0
def tw7800322202206154270:=0
def tw7825748080997058154:=0
def tw7830960740196928977:=0
def tw7839032351132767990:=0
def tw7871547347823934233:=0
def tw7882177406938983153:=0
def tw7919132084129180798:=0
def tw7987052166888116218:=0
def tw8001141603791209706:=0
def tw8096679046042715228:=0
def tw8240322025798894677:=0
def tw8291513988146493249:=0
def tw831788585962573136:=0
def tw8382033888145518186:=0
def tw839931944818650031:=0
def tw8411487996594513706:=0
def tw841719847194839951:=0
def tw8446242694091986165:=0
def tw8509169387414763324:=0
def tw8528035400174779259:=0
def tw8559820718018081363:=0
def tw8605014458049273410:=0
def tw8655388207692870372:=0
def tw8696437166908139575:=0
def tw8725329114943931368:=0
def tw8749681229680179373:=0
def tw8770362135512929054:=0
def tw8794555180502496404:=0
def tw8845518037051381339:=0
def tw8866839843660059331:=0
def tw8888077222067257211:=0
def tw8926718737202911619:=0
def tw8928463697960506639:=0
def tw8942285139362410865:=0
def tw8965475679634513292:=0
def tw8977873779172736627:=0
def tw9025570912973933681:=0
def tw9029688722976977660:=0
def tw9042797688023386218:=0
def tw9084575166499146625:=0
def tw9108511575601024265:=0
def tw9130270853304666995:=0
def tw914508362628547645:=0
def tw9223548532785766257:=0
def tw9362491610015886238:=0
def tw9461035019288547877:=0
def tw9565055126855859939:=0
def tw9565074347774187381:=0
def tw9625060583752691603:=0
def tw965003841199412110:=0
def tw9689303335287720085:=0
def tw9784178444140519079:=0
def tw9787048379647147605:=0
def tw983199212737198209:=0
def tw9839712835696632853:=0
def tw9844315201602749617:=0
def tw9965458449315969020:=0
end PySem.W.Fast
open PySem PySem.W PyProof.Rows
set_option maxRecDepth 100000 in
set_option maxHeartbeats 0 in
theorem PySem.Challenge.cw_rowsmith_k86_exchanges_done_holds : PySem.Challenge.rw_rowsmith_k86_exchanges_done.Holds := by
 w_on;o_law;k_head;(case hw=>w_witness2)
 k_fill
 refine K86.walk (l:=PySem.Challenge.rw_rowsmith_k86_exchanges_done) rfl rfl (fun w h Y=>PySem.W.kIn_of Y) ?F
 case F =>
  intro w mg fa h KX G hmg
  refine' K86.all_mk KX G hmg ?a0 ?l0 ?c0 ?k0 ?a1 ?l1 ?c1 ?k1 ?a2 ?l2 ?c2 ?k2 ?a3 ?l3 ?c3 ?k3 ?a4 ?l4 ?c4 ?k4 ?a5 ?l5 ?c5 ?k5 ?a6 ?l6 ?c6 ?k6 ?a7 ?l7 ?c7 ?k7 ?a8 ?l8 ?c8 ?k8 ?a9 ?l9 ?c9 ?k9 ?a10 ?l10 ?c10 ?k10 ?a11 ?l11 ?c11 ?k11 ?a12 ?l12 ?c12 ?k12 ?a13 ?l13 ?c13 ?k13 ?a14 ?l14 ?c14 ?k14 ?a15 ?l15 ?c15 ?k15 ?a16 ?l16 ?c16 ?k16 ?a17 ?l17 ?c17 ?k17 ?a18 ?l18 ?c18 ?k18 ?a19 ?l19 ?c19 ?k19 ?a20 ?l20 ?c20 ?k20 ?a21 ?l21 ?c21 ?k21 ?a22 ?l22 ?c22 ?k22 ?a23 ?l23 ?c23 ?k23 ?a24 ?l24 ?c24 ?k24 ?a25 ?l25 ?c25 ?k25 ?a26 ?l26 ?c26 ?k26 ?a27 ?l27 ?c27 ?k27 ?a28 ?l28 ?c28 ?k28 ?a29 ?l29 ?c29 ?k29 ?a30 ?l30 ?c30 ?k30 ?a31 ?l31 ?c31 ?k31 ?a32 ?l32 ?c32 ?k32 ?a33 ?l33 ?c33 ?k33 ?a34 ?l34 ?c34 ?k34 ?a35 ?l35 ?c35 ?k35 ?a36 ?l36 ?c36 ?k36 ?a37 ?l37 ?c37 ?k37 ?a38 ?l38 ?c38 ?k38 ?a39 ?l39 ?c39 ?k39 ?a40 ?l40 ?c40 ?k40 ?e0 ?e1 ?e2 ?e3 ?e4 ?ta0 ?tb0 ?tc0 ?ua0 ?ub0 ?z0 ?z1 ?z2 ?z3 ?z4 ?z5 ?z6 ?z7 ?z8 ?z9 ?z10 ?z11 ?z12 ?z13 ?z14 ?z15 ?x1 ?x2 ?x3 ?x4 ?x5 ?x6 ?x7 ?x8 ?x9 ?x10 ?x11 ?x12 ?x13 ?x14 ?x15 ?x16 ?x17 ?x18 ?x19 ?x20 ?x21 ?x22 ?x23 ?x24 ?x25 ?x26 ?x27 ?x28 ?x29 ?x30
  (case a0=>k_is)
  (case l0=>k_is)
  (case c0=>k_is)
  (case k0=>k_is)
  (case a1=>k_is)
  (case l1=>k_is)
  (case c1=>k_is)
  (case k1=>k_is)
  (case a2=>k_is)
  (case l2=>k_is)
  (case c2=>k_is)
  (case k2=>k_is)
  (case a3=>k_is)
  (case l3=>k_is)
  (case c3=>k_is)
  (case k3=>k_is)
  (case a4=>k_is)
  (case l4=>k_is)
  (case c4=>k_is)
  (case k4=>k_is)
  (case a5=>k_is)
  (case l5=>k_is)
  (case c5=>k_is)
  (case k5=>k_is)
  (case a6=>k_is)
  (case l6=>k_is)
  (case c6=>k_is)
  (case k6=>k_is)
  (case a7=>k_is)
  (case l7=>k_is)
  (case c7=>k_is)
  (case k7=>k_is)
  (case a8=>k_is)
  (case l8=>k_is)
  (case c8=>k_is)
  (case k8=>k_is)
  (case a9=>k_is)
  (case l9=>k_is)
  (case c9=>k_is)
  (case k9=>k_is)
  (case a10=>k_is)
  (case l10=>k_is)
  (case c10=>k_is)
  (case k10=>k_is)
  (case a11=>k_is)
  (case l11=>k_is)
  (case c11=>k_is)
  (case k11=>k_is)
  (case a12=>k_is)
  (case l12=>k_is)
  (case c12=>k_is)
  (case k12=>k_is)
  (case a13=>k_is)
  (case l13=>k_is)
  (case c13=>k_is)
  (case k13=>k_is)
  (case a14=>k_is)
  (case l14=>k_is)
  (case c14=>k_is)
  (case k14=>k_is)
  (case a15=>k_is)
  (case l15=>k_is)
  (case c15=>k_is)
  (case k15=>k_is)
  (case a16=>k_is)
  (case l16=>k_is)
  (case c16=>k_is)
  (case k16=>k_is)
  (case a17=>k_is)
  (case l17=>k_is)
  (case c17=>k_is)
  (case k17=>k_is)
  (case a18=>k_is)
  (case l18=>k_is)
  (case c18=>k_is)
  (case k18=>k_is)
  (case a19=>k_is)
  (case l19=>k_is)
  (case c19=>k_is)
  (case k19=>k_is)
  (case a20=>k_is)
  (case l20=>k_is)
  (case c20=>k_is)
  (case k20=>k_is)
  (case a21=>k_is)
  (case l21=>k_is)
  (case c21=>k_is)
  (case k21=>k_is)
  (case a22=>k_is)
  (case l22=>k_is)
  (case c22=>k_is)
  (case k22=>k_is)
  (case a23=>k_is)
  (case l23=>k_is)
  (case c23=>k_is)
  (case k23=>k_is)
  (case a24=>k_is)
  (case l24=>k_is)
  (case c24=>k_is)
  (case k24=>k_is)
  (case a25=>k_is)
  (case l25=>k_is)
  (case c25=>k_is)
  (case k25=>k_is)
  (case a26=>k_is)
  (case l26=>k_is)
  (case c26=>k_is)
  (case k26=>k_is)
  (case a27=>k_is)
  (case l27=>k_is)
  (case c27=>k_is)
  (case k27=>k_is)
  (case a28=>k_is)
  (case l28=>k_is)
  (case c28=>k_is)
  (case k28=>k_is)
  (case a29=>k_is)
  (case l29=>k_is)
  (case c29=>k_is)
  (case k29=>k_is)
  (case a30=>k_is)
  (case l30=>k_is)
  (case c30=>k_is)
  (case k30=>k_is)
  (case a31=>k_is)
  (case l31=>k_is)
  (case c31=>k_is)
  (case k31=>k_is)
  (case a32=>k_is)
  (case l32=>k_is)
  (case c32=>k_is)
  (case k32=>k_is)
  (case a33=>k_is)
  (case l33=>k_is)
  (case c33=>k_is)
  (case k33=>k_is)
  (case a34=>k_is)
  (case l34=>k_is)
  (case c34=>k_is)
  (case k34=>k_is)
  (case a35=>k_is)
  (case l35=>k_is)
  (case c35=>k_is)
  (case k35=>k_is)
  (case a36=>k_is)
  (case l36=>k_is)
  (case c36=>k_is)
  (case k36=>k_is)
  (case a37=>k_is)
  (case l37=>k_is)
  (case c37=>k_is)
  (case k37=>k_is)
  (case a38=>k_is)
  (case l38=>k_is)
  (case c38=>k_is)
  (case k38=>k_is)
  (case a39=>k_is)
  (case l39=>k_is)
  (case c39=>k_is)
  (case k39=>k_is)
  (case a40=>k_is)
  (case l40=>k_is)
  (case c40=>k_is)
  (case k40=>k_is)
  (case e0=>k_is)
  (case e1=>k_is)
  (case e2=>k_is)
  (case e3=>k_is)
  (case e4=>k_is)
  (case ta0=>k_is)
  (case tb0=>kernel_rfl)
  (case tc0=>kernel_rfl)
  (case ua0=>k_is)
  (case ub0=>k_is)
  (case z0=>k_is)
  (case z1=>k_is)
  (case z2=>k_is)
  (case z3=>k_is)
  (case z4=>k_is)
  (case z5=>k_is)
  (case z6=>k_is)
  (case z7=>k_is)
  (case z8=>k_is)
  (case z9=>k_is)
  (case z10=>k_is)
  (case z11=>k_is)
  (case z12=>k_is)
  (case z13=>k_is)
  (case z14=>k_is)
  (case z15=>k_is)
  (case x1=>k_is)
  (case x2=>k_is)
  (case x3=>k_is)
  (case x4=>k_is)
  (case x5=>k_is)
  (case x6=>k_is)
  (case x7=>k_is)
  (case x8=>k_is)
  (case x9=>k_is)
  (case x10=>k_is)
  (case x11=>k_is)
  (case x12=>k_is)
  (case x13=>k_is)
  (case x14=>k_is)
  (case x15=>k_is)
  (case x16=>k_is)
  (case x17=>k_is)
  (case x18=>k_is)
  (case x19=>kernel_rfl)
  (case x20=>k_is)
  (case x21=>k_is)
  (case x22=>k_is)
  (case x23=>k_is)
  (case x24=>k_is)
  (case x25=>kernel_rfl)
  (case x26=>k_is)
  (case x27=>k_is)
  (case x28=>kernel_rfl)
  (case x29=>kernel_rfl)
  (case x30=>kernel_rfl)
#print axioms PySem.Challenge.cw_rowsmith_k86_exchanges_done_holds