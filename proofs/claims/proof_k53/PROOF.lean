import PyProof.Rows.All
import Wide.All
import OpenK.AllK
import Wide.FinOn
import Lean
import PyProof.EqAt
import PyProof.EqKinds
import PyProof.TupleCall
import PySem.Challenge.RW_rowsmith_k53_whole_asked_once_kept_never
import PyProof.TupleKey
import PyProof.P3Eq
import Wide.Seal
import KE.KRevIter
import PyProof.ListRange
import PyProof.CollectIter
import PyProof.Rows.SortWalk
import PyProof.ListMulRoad
import PyProof.AutoListH
import PyProof.Rows.SortStr
import PyProof.FactsAll.tuple_2
import PyProof.TupleOfGen
import PyProof.EnumMake
import KE.KLam
import KE.KNestM
import PyProof.Rows.SortShellK
import KE.KDictSum
import PyProof.ExcInit
import PyProof.InstStoreFacts
import PyProof.RulesAs
import PyProof.NsDelKeeps
import PyProof.ExcBaseAll.ValueError
import PyProof.ExcArgsOwn
import KE.KIsAll
import PyProof.Rows.SumAny
import PyProof.Rows.SetFrom
import KE.KDictOf
import PyProof.IsiH_list
set_option linter.all false
set_option maxRecDepth 100000
set_option maxHeartbeats 4000000
namespace PySem
open Sem (wp)
open SeqAt
mutual
def dQ:PyData->Bool
 | .none=>true
 | .int _=>true
 | .str x=>PyData.strOk x
 | .tuple ds=>iX ds
 | _=>false
def iX:List PyData->Bool
 | []=>true
 | d :: ds=>dQ d && iX ds
end
mutual
def DA (w:World):PyData->Int
 | .int i=>hashInt i
 | .str x=>hashStr w x
 | .tuple ds=>reduceHash (Builtin.Tuple.tupleHashOf (wG w ds))
 | _=>PySem.W.hashW w.params .none
def wG (w:World):List PyData->List Int
 | []=>[]
 | d :: ds=>DA w d :: wG w ds
end
mutual
def Dq:PyData->Nat
 | .tuple ds=>A7 ds + 1
 | _=>1
def A7:List PyData->Nat
 | []=>0
 | d :: ds=>Dq d + A7 ds
end
mutual
theorem vI:∀ {d:PyData},dQ d=true->d.canLay0=true
 | .none,_=>rfl
 | .int _,_=>rfl
 | .str _,h=>by simp only [dQ] at h;simp only [PyData.canLay0];exact h
 | .tuple ds,h=>by simp only [dQ] at h;simp only [PyData.canLay0];exact CB h
 | .bool _,h=>nomatch h
 | .list _,h=>nomatch h
 | .dict _,h=>nomatch h
theorem CB:∀ {ds:List PyData},iX ds=true->PyData.canLayAll0 ds=true
 | [],_=>rfl
 | d :: ds,h=>by simp only [iX,Bool.and_eq_true] at h;simp only [PyData.canLayAll0,Bool.and_eq_true];exact ⟨vI h.1,CB h.2⟩
end
noncomputable instance decD:DecidableEq PyData:=fun a b=>Classical.propDecidable (a=b)
mutual
theorem S8:∀ (d e:PyData),dQ d=true->dQ e=true->(PyData.eqv d e=true ↔ d=e)
 | .none,e,_,h=>by cases e <;> first | (simp [PyData.eqv];done) | (exact absurd h (by simp [dQ]))
 | .int i,.int j,_,h=>by
  by_cases e:i=j
  ·subst e;simp [PyData.eqv]
  ·simp [PyData.eqv,e]
 | .int i,.none,_,h=>by first | (simp [PyData.eqv];done) | (exact absurd h (by simp [dQ]))
 | .int i,.bool _,_,h=>by first | (simp [PyData.eqv];done) | (exact absurd h (by simp [dQ]))
 | .int i,.str _,_,h=>by first | (simp [PyData.eqv];done) | (exact absurd h (by simp [dQ]))
 | .int i,.tuple _,_,h=>by first | (simp [PyData.eqv];done) | (exact absurd h (by simp [dQ]))
 | .int i,.list _,_,h=>by first | (simp [PyData.eqv];done) | (exact absurd h (by simp [dQ]))
 | .int i,.dict _,_,h=>by first | (simp [PyData.eqv];done) | (exact absurd h (by simp [dQ]))
 | .str i,.str j,_,h=>by
  by_cases e:i=j
  ·subst e;simp [PyData.eqv]
  ·simp [PyData.eqv,e]
 | .str i,.none,_,h=>by first | (simp [PyData.eqv];done) | (exact absurd h (by simp [dQ]))
 | .str i,.bool _,_,h=>by first | (simp [PyData.eqv];done) | (exact absurd h (by simp [dQ]))
 | .str i,.int _,_,h=>by first | (simp [PyData.eqv];done) | (exact absurd h (by simp [dQ]))
 | .str i,.tuple _,_,h=>by first | (simp [PyData.eqv];done) | (exact absurd h (by simp [dQ]))
 | .str i,.list _,_,h=>by first | (simp [PyData.eqv];done) | (exact absurd h (by simp [dQ]))
 | .str i,.dict _,_,h=>by first | (simp [PyData.eqv];done) | (exact absurd h (by simp [dQ]))
 | .tuple ds,.tuple es,h,h'=>by
  simp only [dQ] at h h'
  have:=OA ds es h h'
  simp only [PyData.eqv,this,PyData.tuple.injEq]
 | .tuple ds,.none,_,_=>by simp [PyData.eqv]
 | .tuple ds,.int _,_,_=>by simp [PyData.eqv]
 | .tuple ds,.str _,_,_=>by simp [PyData.eqv]
 | .tuple ds,.bool _,_,h=>nomatch h
 | .tuple ds,.list _,_,h=>nomatch h
 | .tuple ds,.dict _,_,h=>nomatch h
 | .bool _,_,h,_=>nomatch h
 | .list _,_,h,_=>nomatch h
 | .dict _,_,h,_=>nomatch h
theorem OA:∀ (ds es:List PyData),iX ds=true->iX es=true->(PyData.eqvAll ds es=true ↔ ds=es)
 | [],[],_,_=>by simp [PyData.eqvAll]
 | [],_ :: _,_,_=>by simp [PyData.eqvAll]
 | _ :: _,[],_,_=>by simp [PyData.eqvAll]
 | d :: ds,e :: es,h,h'=>by
  simp only [iX,Bool.and_eq_true] at h h';simp only [PyData.eqvAll,Bool.and_eq_true,S8 d e h.1 h'.1,OA ds es h.2 h'.2,List.cons.injEq]
end
mutual
theorem Reads.keepsD {h h':Heap} {a:Addr} {o:Obj} {es ep} (ho:h.get? a=some o) (hd:o.data=.dict es ep) (hs:Heap.SameBut a h h'):∀ {d:PyData} {v:Value} {as:List Addr},dQ d=true->Reads h v d as->Reads h' v d as
 | .none,_,_,_,r=>by cases r;exact .none
 | .int _,_,_,_,r=>by cases r;exact .int _ _
 | .str _,_,_,_,r=>by cases r;exact .str _ _
 | .tuple ds,_,_,k,r=>by
  simp only [dQ] at k
  cases r with
  | @tuple b o' vs n _ as h1 h2 h3 h4 =>
   have hne:b≠a:=by
    rintro rfl;obtain rfl:o'=o:=Option.some.inj (h1.symm.trans ho);rw [hd] at h3;exact nomatch h3
   exact .tuple ((hs.2 b hne).trans h1) h2 h3 (ReadsAll.keepsD ho hd hs k h4)
 | .bool _,_,_,k,_=>nomatch k
 | .list _,_,_,k,_=>nomatch k
 | .dict _,_,_,k,_=>nomatch k
theorem ReadsAll.keepsD {h h':Heap} {a:Addr} {o:Obj} {es ep} (ho:h.get? a=some o) (hd:o.data=.dict es ep) (hs:Heap.SameBut a h h'):∀ {ds:List PyData} {vs:List Value} {as:List Addr},iX ds=true->ReadsAll h vs ds as->ReadsAll h' vs ds as
 | [],_,_,_,r=>by cases r;exact .nil
 | d :: ds,_,_,k,r=>by
  simp only [iX,Bool.and_eq_true] at k
  cases r with
  | cons r1 r2=>exact .cons (Reads.keepsD ho hd hs k.1 r1) (ReadsAll.keepsD ho hd hs k.2 r2)
end
section
variable {prog:Program} {w:World} {E:Value->Shared->Prop}
mutual
theorem GJ:∀ (d:PyData) (v:Value) (A:Around) (s:Shared) (as:List Addr) (Q:Int->Shared->Prop),dQ d=true->Reads s.heap v d as->A.units + d.depth < cLine ->
  Q (DA w d) { s with toks:=s.toks + Dq d }->wpAny (model prog w) A (pyHash v) Q E s
 | .none,_,A,s,_,Q,_,x,hu,h=>by
  cases x
  exact PySem.W.pyHash_slot (T:="NoneType") rfl F.slot_NoneType_hash F.entry_NoneType_hash (F.args_NoneType_hash_1 _) (beq_builtin_none _) (.inr (by omega)) (wpAny_bind (wpAny_pure (wpAny_bind (wpAny_mkInt (wpAny_pure ⟨_,_,rfl,h⟩)))))
 | .int i,_,A,s,_,Q,_,x,_,h=>by cases x;exact wpAny_pyHash_int h
 | .str y,_,A,s,_,Q,_,x,_,h=>by cases x;exact wpAny_pyHash_str h
 | .tuple ds,_,A,s,_,Q,hk,x,hu,h=>by
  simp only [dQ] at hk
  cases x with
  | @tuple a o vs n _ as h1 h2 h3 h4 =>
   refine PySem.W.pyHash_slot (T:="tuple") ⟨_,h1,h2⟩ F.slot_tuple_hash F.entry_tuple_hash (F.args_tuple_hash_1 _) (beq_builtin_none _) (.inr (by omega)) ?_
   show wpAny _ _ (Builtin.Tuple.tupleItemsOf (.ref a) >>= _) _ _ s;refine wpAny_bind (wpAny_tupleItemsOf h1 h3 ?_);refine wpAny_bind ?_;rw [<- Array.forIn_toList];refine Cp ds _ A.in1 s _ #[] _ hk h4 (by simp only [PyData.depth,Around.in1_units] at hu ⊢;omega) fun b hb=>?_;show wpAny _ _ (retInt (Builtin.Tuple.tupleHashOf b.toList)) _ _ _;rw [hb];exact wpAny_bind (wpAny_mkInt (wpAny_pure ⟨_,_,rfl,by simpa [DA,Dq,Nat.add_assoc] using h⟩))
 | .bool _,_,_,_,_,_,hk,_,_,_=>nomatch hk
 | .list _,_,_,_,_,_,hk,_,_,_=>nomatch hk
 | .dict _,_,_,_,_,_,hk,_,_,_=>nomatch hk
theorem Cp:∀ (ds:List PyData) (vs:List Value) (A:Around) (s:Shared) (as:List Addr) (b:Array Int) (Q:Array Int->Shared->Prop),iX ds=true->ReadsAll s.heap vs ds as->A.units + PyData.depthAll ds < cLine ->
  (∀ b',b'.toList=b.toList++wG w ds->Q b' { s with toks:=s.toks + A7 ds }) ->
  wpAny (model prog w) A (forIn vs b fun x r=>do let h <- pyHash x;pure PUnit.unit;pure (ForInStep.yield (r.push h))) Q E s
 | [],_,A,s,_,b,Q,_,x,_,h=>by cases x;exact wpAny_pure (h b (by simp [wG]))
 | k :: xs,_,A,s,_,b,Q,hk,x,hu,h=>by
  cases x with
  | cons x1 x2 =>
   simp only [iX,Bool.and_eq_true] at hk;simp only [PyData.depthAll] at hu;rw [List.forIn_cons];refine wpAny_bind (wpAny_bind (GJ k _ A s _ _ hk.1 x1 (by omega) ?_));refine wpAny_bind (wpAny_pure (wpAny_pure ?_))
   exact Cp xs _ A _ _ _ Q hk.2 x2 (by omega) fun b' hb=>by
    have:=h b' (by simp [hb,wG])
    simpa [A7,Nat.add_assoc] using this
end
end
end PySem
namespace PySem
open Sem (wp)
open SeqAt
section
variable {prog:Program} {w:World} {E:Value->Shared->Prop}
mutual
theorem Jn:∀ (d:PyData) (n:Nat) (v:Value) (A:Around) (s:Shared) (as:List Addr) (Q:Bool->Shared->Prop),dQ d=true->Reads s.heap v d as->d.depth<=n->Q true s->wpAny (model prog w) A (eqIsQuiet n v) Q E s
 | .none,n,_,A,s,_,Q,_,x,_,h=>by cases x;rw [eqIsQuiet_byValue n rfl];exact wpAny_pure h
 | .int _,n,_,A,s,_,Q,_,x,_,h=>by cases x;rw [eqIsQuiet_byValue n rfl];exact wpAny_pure h
 | .str _,n,_,A,s,_,Q,_,x,_,h=>by cases x;rw [eqIsQuiet_byValue n rfl];exact wpAny_pure h
 | .tuple ds,0,_,A,s,_,Q,hk,x,hn,h=>by simp only [PyData.depth] at hn;omega
 | .tuple ds,n + 1,_,A,s,_,Q,hk,x,hn,h=>by
  simp only [dQ] at hk
  cases x with
  | @tuple a o vs m _ as h1 h2 h3 h4 =>
   have hT:s.TypeIs (.ref a) "tuple":=⟨o,h1,h2⟩
   unfold eqIsQuiet;refine wpAny_bind (wpAny_specialOf hT F.slot_tuple_eq.lookup ?_)
   show wpAny _ _ (isInstance (.ref a) (.type "tuple") >>= _) _ _ s
   refine wpAny_bind (wpAny_isInstance hT isSubtype_tuple_tuple ?_);simp only [Bool.not_true,Bool.false_eq_true,if_false];refine wpAny_bind (wpAny_seqItems h1 h3 ?_);refine wpAny_bind ?_;show wpAny _ _ (forIn vs _ _) _ _ s;rw [<- Array.forIn_toList];refine wpAny_forIn_list _ (fun rest r s'=>r.1=none/\s'=s/\∀ u∈rest,∀ (Q:Bool->Shared->Prop),Q true s->wpAny (model prog w) A (eqIsQuiet n u) Q E s) _ ?_ ?_ _ _ ⟨rfl,rfl,G0 ds n _ A s _ hk h4 (by simp only [PyData.depth] at hn;omega)⟩
   ·rintro v rest r s' ⟨hr,rfl,hall⟩
    refine wpAny_bind (hall v List.mem_cons_self _ ?_);simp only [Bool.not_true,Bool.false_eq_true,if_false];exact wpAny_pure ⟨rfl,rfl,fun u hu'=>hall u (List.mem_cons_of_mem _ hu')⟩
   ·rintro ⟨r1,r2⟩ s' ⟨hr,rfl,_⟩
    simp only at hr;subst hr;exact wpAny_pure h
 | .bool _,_,_,_,_,_,_,hk,_,_,_=>nomatch hk
 | .list _,_,_,_,_,_,_,hk,_,_,_=>nomatch hk
 | .dict _,_,_,_,_,_,_,hk,_,_,_=>nomatch hk
theorem G0:∀ (ds:List PyData) (n:Nat) (vs:List Value) (A:Around) (s:Shared) (as:List Addr),iX ds=true->ReadsAll s.heap vs ds as->PyData.depthAll ds<=n ->
  ∀ u∈vs,∀ (Q:Bool->Shared->Prop),Q true s->wpAny (model prog w) A (eqIsQuiet n u) Q E s
 | [],n,_,A,s,_,_,x,_=>by cases x;intro u hu;cases hu
 | d :: ds,n,_,A,s,_,hk,x,hn=>by
  simp only [iX,Bool.and_eq_true] at hk;simp only [PyData.depthAll] at hn
  cases x with
  | cons x1 x2 =>
   intro u hu Q q
   rcases List.mem_cons.mp hu with rfl | hu
   ·exact Jn d n _ A s _ Q hk.1 x1 (by omega) q
   ·exact G0 ds n _ A s _ hk.2 x2 (by omega) u hu Q q
end
end
noncomputable def mK (prog:Program) (w:World):HeapKind prog w PyData where
 is:=fun h d a=>dQ d=true/\d.depth<=8/\∃ as,Reads h (.ref a) d as
 hash:=DA w
 draws:=Dq
 room:=fun A=>A.units + 8 < cLine
 inj:=fun hx hy=>by
  obtain ⟨k,_,as,r⟩:=hx;obtain ⟨_,_,bs,r'⟩:=hy;exact SeqAt.Reads.unique _ _ _ _ _ (vI k) r r'
 keeps:=fun x ho hd hs=>let ⟨k,n,as,r⟩:=x;⟨k,n,as,Reads.keepsD ho hd hs k r⟩
 pyHash:=fun hu x h=>let ⟨k,n,as,r⟩:=x;GJ _ _ _ _ _ _ k r (by omega) h
 eqBool:=fun hu x y h=>by
  obtain ⟨k,n,as,r⟩:=x;obtain ⟨k',n',bs,r'⟩:=y;refine SeqAt.eqAt_reads _ _ _ _ _ _ _ _ r r' (vI k) (vI k') (by omega) _ _ _ _ ?_;rw [Bool.eq_iff_iff.mpr ((S8 _ _ k k').trans decide_eq_true_iff.symm)];exact h
 quiet:=fun x h=>let ⟨k,n,as,r⟩:=x;Jn _ _ _ _ _ _ _ k r n h
end PySem
set_option Elab.async false
namespace L2
open PySem PySem.Spec PyProof.Rows
abbrev Key:=Sum Int Str
def zD:Key->Value->Bool
 | .inl k,v=>Value.isInt k v
 | .inr x,v=>Value.isStrOf x v
def Ve (w:World):Key->Int
 | .inl k=>hashInt k
 | .inr x=>hashStr w x
theorem fV:∀ {k:Key} {v:Value},zD k v=true->(∃ i t,k=Sum.inl i/\v=Value.int i t)\/(∃ x t,k=Sum.inr x/\v=Value.str x t)
 | .inl i,v,h=>by
  obtain ⟨t,e⟩:=Value.isInt_shape (k:=i) (v:=v) h;exact .inl ⟨i,t,rfl,e⟩
 | .inr x,v,h=>by
  obtain ⟨t,e⟩:=Value.isStrOf_shape (x:=x) (v:=v) h;exact .inr ⟨x,t,rfl,e⟩
theorem J3 (i:Int) (t:Tok):zD (.inl i) (.int i t)=true:=by simp [zD,Value.isInt]
theorem Jg (x:Str) (t:Tok):zD (.inr x) (.str x t)=true:=by simp [zD,Value.isStrOf]
theorem RX (a b:Int):decide ((Sum.inl a:Key)=Sum.inl b)=(a == b):=by
 by_cases e:a=b
 ·subst e;simp
 ·have h:¬ (Sum.inl a:Key)=Sum.inl b:=fun q=>e (Sum.inl.inj q)
  rw [decide_eq_false h];exact (beq_eq_false_iff_ne.mpr e).symm
theorem Sy (a b:Str):decide ((Sum.inr a:Key)=Sum.inr b)=decide (a=b):=by
 by_cases e:a=b
 ·subst e;simp
 ·have h:¬ (Sum.inr a:Key)=Sum.inr b:=fun q=>e (Sum.inr.inj q)
  rw [decide_eq_false h,decide_eq_false e]
theorem R9 (a:Int) (b:Str):decide ((Sum.inl a:Key)=Sum.inr b)=false:=decide_eq_false (fun q=>nomatch q)
theorem R6 (a:Str) (b:Int):decide ((Sum.inr a:Key)=Sum.inl b)=false:=decide_eq_false (fun q=>nomatch q)
def gF (prog:Program) (w:World):PySem.KeyKind prog w Key where
 is:=zD
 hash:=Ve w
 inj:=fun v a b ha hb=>by
  rcases fV ha with ⟨i,t,rfl,rfl⟩ | ⟨x,t,rfl,rfl⟩
  ·rcases fV hb with ⟨j,u,rfl,e⟩ | ⟨y,u,rfl,e⟩
   ·injection e with e1 _;rw [e1]
   ·exact nomatch e
  ·rcases fV hb with ⟨j,u,rfl,e⟩ | ⟨y,u,rfl,e⟩
   ·exact nomatch e
   ·injection e with e1 _;rw [e1]
 byValue:=fun k v h=>by
  rcases fV h with ⟨i,t,rfl,rfl⟩ | ⟨x,t,rfl,rfl⟩ <;> rfl
 pyHash:=fun hv h=>by
  rcases fV hv with ⟨i,t,rfl,rfl⟩ | ⟨x,t,rfl,rfl⟩
  ·exact wpAny_pyHash_int h
  ·exact wpAny_pyHash_str h
 eqBool:=fun hu hv h=>by
  rcases fV hu with ⟨i,t,rfl,rfl⟩ | ⟨x,t,rfl,rfl⟩
  ·rcases fV hv with ⟨j,u,rfl,rfl⟩ | ⟨y,u,rfl,rfl⟩
   ·rw [RX] at h;exact wpAny_eqBool_int h
   ·rw [R9] at h;exact SeqAt.EqAt.int_str i t y u _ _ _ _ h
  ·rcases fV hv with ⟨j,u,rfl,rfl⟩ | ⟨y,u,rfl,rfl⟩
   ·rw [R6] at h;exact SeqAt.EqAt.str_int x t j u _ _ _ _ h
   ·rw [Sy] at h;exact wpAny_eqBool_str h
 «strs»:=fun k x t v h=>by
  rcases fV h with ⟨i,u,rfl,e⟩ | ⟨y,u,rfl,e⟩
  ·exact nomatch e
  ·injection e with e1 _
   subst e1;cases v <;> rfl
theorem FR (prog:Program) (w:World) (i:Int) (t:Tok):(gF prog w).is (.inl i) (.int i t)=true:=J3 i t
theorem FK (prog:Program) (w:World) (x:Str) (t:Tok):(gF prog w).is (.inr x) (.str x t)=true:=Jg x t
inductive V where
 | non | bl (b:Bool) | int (i:Int) | str (x:Str) | byt (b:Array UInt8) | flt (b:UInt64) | ref (a:Addr) | ty (n:String)
 deriving DecidableEq
def RelV:V->Value->Prop
 | .non,u=>u=Value.none
 | .bl b,u=>u=Value.bool b
 | .int i,u=>∃ t,u=Value.int i t
 | .str x,u=>∃ t,u=Value.str x t
 | .byt b,u=>∃ t,u=Value.bytes b t
 | .flt b,u=>∃ t,u=Value.float b t
 | .ref a,u=>u=Value.ref a
 | .ty n,u=>u=Value.type n
abbrev Vals:List V->List Value->Prop:=Paired RelV
theorem Vals.length {xs:List V} {us:List Value} (r:Vals xs us):xs.length=us.length:=Paired.length r
theorem Vals.get:∀ {xs:List V} {us:List Value} {i:Nat} {x:V},Vals xs us->xs[i]?=some x->∃ u,us[i]?=some u/\RelV x u
 | _,_,_,_,.nil,e=>by simp at e
 | _,_,0,_,.cons r _,e=>by simp at e;subst e;exact ⟨_,rfl,r⟩
 | _,_,i + 1,x,.cons _ t,e=>by
  obtain ⟨u,h1,h2⟩:=Vals.get (i:=i) (x:=x) t (by simpa using e);exact ⟨u,by simpa using h1,h2⟩
theorem Vals.set {x:V} {u:Value} (r:RelV x u):∀ {xs:List V} {us:List Value} (i:Nat),Vals xs us->Vals (xs.set i x) (us.set i u)
 | _,_,_,.nil=>.nil
 | _,_,0,.cons _ t=>.cons r t
 | _,_,i + 1,.cons q t=>.cons q (Vals.set r i t)
theorem Vals.append:∀ {xs ys:List V} {us ws:List Value},Vals xs us->Vals ys ws->Vals (xs++ys) (us++ws)
 | _,_,_,_,.nil,s=>s
 | _,_,_,_,.cons r t,s=>.cons r (Vals.append t s)
theorem Vals.take:∀ {xs:List V} {us:List Value} (n:Nat),Vals xs us->Vals (xs.take n) (us.take n)
 | _,_,0,_=>.nil
 | _,_,_ + 1,.nil=>.nil
 | _,_,n + 1,.cons r t=>.cons r (Vals.take n t)
theorem Vals.drop:∀ {xs:List V} {us:List Value} (n:Nat),Vals xs us->Vals (xs.drop n) (us.drop n)
 | _,_,0,r=>r
 | _,_,_ + 1,.nil=>.nil
 | _,_,n + 1,.cons _ t=>Vals.drop n t
def j8:Option V->Option Value->Prop
 | some v,some u=>RelV v u
 | none,none=>True
 | _,_=>False
def KV {κ:Type}:List (κ × V)->List (κ × Value)->Prop:=Paired fun (p:κ × V) (q:κ × Value)=>p.1=q.1/\RelV p.2 q.2
def kV:Key->V
 | .inl i=>.int i
 | .inr x=>.str x
inductive HO where
  | lst (xs:List V)
  | tup (xs:List V)
  | dK (kvs:List (Key × V)) | dT (kvs:List (List Key × V)) | dN (kvs:List (PyData × V))
  | set (S:Int->Bool) (n:Nat)
  | ins (C dx:Addr) (fs:List (Str × V))
  | own (x:Addr)
  | xd (fs:List (Str × V))
  | met (f x:Addr)
  | rng (lo hi:Int)
  | frz (o:Obj) (u:HO)
  | tbl (ps:Array Value)
  | ext (φ:Heap->Prop)
abbrev Hp:=Addr->Option HO
def upd (H:Hp) (a:Addr) (o:HO):Hp:=fun b=>if b=a then some o else H b
mutual
def eD (H:Hp):PyData->V->Prop
 | .none,v=>v=.non
 | .int i,v=>v=.int i
 | .str z,v=>v=.str z
 | .tuple ds,v=>∃ a xs,v=.ref a/\H a=some (.tup xs)/\g0 H ds xs
 | .bool _,_=>False
 | .list _,_=>False
 | .dict _,_=>False
def g0 (H:Hp):List PyData->List V->Prop
 | [],vs=>vs=[]
 | d :: ds,vs=>∃ v vs',vs=v :: vs'/\eD H d v/\g0 H ds vs'
end
mutual
theorem eD.stay {H H':Hp} (ht:∀ b xs,H b=some (.tup xs)->H' b=some (.tup xs)):∀ {d:PyData} {v:V},eD H d v->eD H' d v
 | .none,v,h=>by simp only [eD] at h ⊢;exact h
 | .int _,v,h=>by simp only [eD] at h ⊢;exact h
 | .str _,v,h=>by simp only [eD] at h ⊢;exact h
 | .tuple ds,v,h=>by simp only [eD] at h ⊢;obtain ⟨a,xs,e,q,r⟩:=h;exact ⟨a,xs,e,ht _ _ q,g0.stay ht r⟩
 | .bool _,v,h=>by simp only [eD] at h
 | .list _,v,h=>by simp only [eD] at h
 | .dict _,v,h=>by simp only [eD] at h
theorem g0.stay {H H':Hp} (ht:∀ b xs,H b=some (.tup xs)->H' b=some (.tup xs)):∀ {ds:List PyData} {vs:List V},g0 H ds vs->g0 H' ds vs
 | [],vs,h=>by simp only [g0] at h ⊢;exact h
 | d :: ds,vs,h=>by simp only [g0] at h ⊢;obtain ⟨v,vs',e,p,q⟩:=h;exact ⟨v,vs',e,eD.stay ht p,g0.stay ht q⟩
end
def sS (H:Hp) (d:PyData) (b:Addr):Prop:=dQ d=true/\d.depth<=8/\eD H d (.ref b)
theorem sS.stay {H H':Hp} {d:PyData} {b:Addr} (ht:∀ b xs,H b=some (.tup xs)->H' b=some (.tup xs)) (x:sS H d b):sS H' d b:=⟨x.1,x.2.1,x.2.2.stay ht⟩
variable {H:Hp} {a:Addr} {o:HO}
theorem bY:upd H a o a=some o:=by unfold upd;rw [if_pos rfl]
variable {b:Addr}
theorem bK (h:b≠a):upd H a o b=H b:=by unfold upd;rw [if_neg h]
theorem Vk {u:HO}:upd (upd H a o) a u=upd H a u:=by
 funext b;unfold upd;split <;> rfl
theorem N4 {u:HO} (h:H a=some o) (h':H b=some u) (d:o≠u):a≠b:=by
 intro e;subst e;rw [h] at h';exact d (Option.some.inj h')
theorem cM (h:H a=some o) (h':H b=none):a≠b:=by
 intro e;subst e;rw [h] at h';cases h'
def jM (h:Heap) (a:Addr) (items:Array Value):Prop:=∃ o,h.get? a=some o/\o.cls=.type "tuple"/\o.dict=none/\∃ n,o.data=.seq items n
variable {h:Heap}
theorem jM.tup {items:Array Value} (x:jM h a items):IsTup h a items:=let ⟨o,h1,h2,_,h3⟩:=x;⟨o,h1,h2,h3⟩
theorem jM.new (h:Heap) (items:Array Value):jM (h.push { cls:=.type "tuple",data:=.seq items }) h.objs.size items:=⟨_,Heap.get?_push_size _ rfl,rfl,rfl,_,rfl⟩
section
variable (P:Program) (w:World)
def cZ (H:Hp) (h:Heap) (a:Addr):HO->Prop
 | .lst xs=>xs.length<=sizeLine/\∃ (its:List Value) (n:Nat),Vals xs its/\h.get? a=some { cls:=.type "list",data:=.seq its.toArray n }
 | .tup xs=>xs.length<=sizeLine/\∃ its:List Value,Vals xs its/\jM h a its.toArray
 | .dK kvs=>kvs.length<=sizeLine/\(a == sysModules)=false/\∃ vs,KV kvs vs/\h.DictOf (gF P w) a vs
 | .dT kvs=>kvs.length<=sizeLine/\(a == sysModules)=false/\∃ xs:List (List Key × Addr × Value),
   Paired (fun (p:List Key × V) (q:List Key × Addr × Value)=>p.1=q.1/\H q.2.1=some (.tup (p.1.map kV))/\RelV p.2 q.2.2) kvs xs /\
   ∃ o es ep,h.get? a=some o/\o.ExactDict/\o.data=.dict es ep/\es.toList=xs.map (entryOfKey (tupleKind (gF P w)))/\(xs.map (·.1)).Nodup
 | .dN kvs=>kvs.length<=sizeLine/\(a == sysModules)=false/\∃ xs:List (PyData × Addr × Value),
   Paired (fun (p:PyData × V) (q:PyData × Addr × Value)=>p.1=q.1/\sS H p.1 q.2.1/\RelV p.2 q.2.2) kvs xs /\
   ∃ o es ep,h.get? a=some o/\o.ExactDict/\o.data=.dict es ep/\es.toList=xs.map (entryOfKey (mK P w))/\(xs.map (·.1)).Nodup
 | .set S n=>h.SetOf (intKind P w) a S n
 | .ins C dx fs=>H dx=some (.own a)/\fs.length<=1000/\dx≠a/\h.get? a=some (PySem.W.instObj C dx) /\
   ∃ mA,h.Ns1 dx mA/\(∀ f,j8 (fs.lookup f) (mA f))/\PySem.Within mA (fs.map (·.1))
 | .own _=>∃ o,h.get? a=some o
 | .xd fs=>∃ mA,h.Ns1 a mA/\∀ f,j8 (fs.lookup f) (mA f)
 | .rng lo hi=>∃ t u v,h.get? a=some { cls:=.type "range",data:=.fields #[.int lo t,.int hi u,.int 1 v] }
 | .frz o u=>h.get? a=some o/\cZ H h a u
 | .tbl ps=>h.get? a=some { cls:=.none,data:=.fields ps }
 | .met f x=>h.get? a=some (PySem.W.methodObj (.ref f) (.ref x))
 | .ext φ=>φ h/\(∃ o,h.get? a=some o)/\∀ h1 h2:Heap,φ h1->(∀ o,h1.get? a=some o->h2.get? a=some o)->φ h2
def fD (H:Hp) (h:Heap):Prop:=∀ a o,H a=some o->cZ P w H h a o
end
section
variable {P:Program} {w:World} {H H':Hp} {h h':Heap} {a:Addr} {o:HO}
theorem cZ.lt (x:cZ P w H h a o):a < h.objs.size:=by
 cases o with
 | lst xs=>obtain ⟨_,_,_,_,e⟩:=x;exact Heap.lt_size e
 | tup xs=>obtain ⟨_,_,_,p⟩:=x;exact IsTup.lt (jM.tup p)
 | dK kvs=>obtain ⟨_,_,_,_,o,_,_,e,_⟩:=x;exact Heap.lt_size e
 | dT kvs=>obtain ⟨_,_,_,_,o,_,_,e,_⟩:=x;exact Heap.lt_size e
 | dN kvs=>obtain ⟨_,_,_,_,o,_,_,e,_⟩:=x;exact Heap.lt_size e
 | set S n=>obtain ⟨o,_,_,_,e,_⟩:=x;exact Heap.lt_size e
 | ins C dx fs=>obtain ⟨_,_,_,e,_⟩:=x;exact Heap.lt_size e
 | own y=>obtain ⟨_,e⟩:=x;exact Heap.lt_size e
 | xd fs=>obtain ⟨_,⟨_,_,_,e,_⟩,_⟩:=x;exact Heap.lt_size e
 | rng lo hi=>obtain ⟨_,_,_,e⟩:=x;exact Heap.lt_size e
 | frz ob u=>obtain ⟨e,_⟩:=x;exact Heap.lt_size e
 | tbl ps=>exact Heap.lt_size (show h.get? a=some _ from x)
 | met f y=>exact Heap.lt_size (show h.get? a=some _ from x)
 | ext φ=>obtain ⟨_,⟨_,e⟩,_⟩:=x;exact Heap.lt_size e
theorem Paired.mapP {α β:Type} {F G:α->β->Prop}:∀ {l₁:List α} {l₂:List β},Paired F l₁ l₂->(∀ a b,F a b->G a b)->Paired G l₁ l₂
 | _,_,.nil,_=>.nil
 | _,_,.cons r t,f=>.cons (f _ _ r) (Paired.mapP t f)
theorem cZ.stay (x:cZ P w H h a o) (k:∀ b u,(b=a\/H b=some (.own a))->h.get? b=some u->h'.get? b=some u)
  (ho:∀ b,H b=some (.own a)->H' b=some (.own a)) (ht:∀ b xs,H b=some (.tup xs)->H' b=some (.tup xs)):cZ P w H' h' a o:=by
 induction o with
 | lst xs=>obtain ⟨z,its,n,r,e⟩:=x;exact ⟨z,its,n,r,k _ _ (.inl rfl) e⟩
 | tup xs=>obtain ⟨z,its,r,ob,e,c⟩:=x;exact ⟨z,its,r,ob,k _ _ (.inl rfl) e,c⟩
 | dK kvs=>obtain ⟨z,y,vs,r,ob,es,ep,e,c⟩:=x;exact ⟨z,y,vs,r,ob,es,ep,k _ _ (.inl rfl) e,c⟩
 | dT kvs =>
  obtain ⟨z,y,xs,r,ob,es,ep,e,c⟩:=x;exact ⟨z,y,xs,Paired.mapP r fun p q z=>⟨z.1,ht _ _ z.2.1,z.2.2⟩,ob,es,ep,k _ _ (.inl rfl) e,c⟩
 | dN kvs =>
  obtain ⟨z,y,xs,r,ob,es,ep,e,c⟩:=x;exact ⟨z,y,xs,Paired.mapP r fun p q z=>⟨z.1,z.2.1.stay ht,z.2.2⟩,ob,es,ep,k _ _ (.inl rfl) e,c⟩
 | set S n=>obtain ⟨ob,es,ep,t,e,c⟩:=x;exact ⟨ob,es,ep,t,k _ _ (.inl rfl) e,c⟩
 | ins C dx fs =>
  obtain ⟨d,z,ne,e,mA,⟨od,es,ep,e2,c⟩,r⟩:=x;exact ⟨ho _ d,z,ne,k _ _ (.inl rfl) e,mA,⟨od,es,ep,k _ _ (.inr d) e2,c⟩,r⟩
 | own y=>obtain ⟨ob,e⟩:=x;exact ⟨ob,k _ _ (.inl rfl) e⟩
 | xd fs=>obtain ⟨mA,⟨od,es,ep,e,c⟩,r⟩:=x;exact ⟨mA,⟨od,es,ep,k _ _ (.inl rfl) e,c⟩,r⟩
 | rng lo hi=>obtain ⟨t,u,v,e⟩:=x;exact ⟨t,u,v,k _ _ (.inl rfl) e⟩
 | frz ob u ih=>obtain ⟨e,q⟩:=x;exact ⟨k _ _ (.inl rfl) e,ih q⟩
 | tbl ps =>
  have e:h.get? a=some { cls:=.none,data:=.fields ps }:=x;show h'.get? a=some { cls:=.none,data:=.fields ps };exact k a _ (.inl rfl) e
 | met f y =>
  have e:h.get? a=some (PySem.W.methodObj (.ref f) (.ref y)):=x;show h'.get? a=some (PySem.W.methodObj (.ref f) (.ref y));exact k a _ (.inl rfl) e
 | ext φ=>obtain ⟨p,⟨o,e⟩,st⟩:=x;exact ⟨st _ _ p fun o q=>k _ _ (.inl rfl) q,⟨o,k _ _ (.inl rfl) e⟩,st⟩
theorem fD.lt (x:fD P w H h) (e:H a=some o):a < h.objs.size:=(x a o e).lt
theorem fD.fresh (x:fD P w H h) (e:h.objs.size<=a):H a=none:=by
 cases q:H a with
 | none=>rfl
 | some u=>exact absurd (Nat.lt_of_lt_of_le (x.lt q) e) (Nat.lt_irrefl _)
theorem fD.kept (x:fD P w H h) (k:∀ b u,h.get? b=some u->h'.get? b=some u):fD P w H h':=fun a o e =>
 (x a o e).stay (fun b u _ q=>k b u q) (fun _ q=>q) fun _ _ q=>q
theorem fD.laid (x:fD P w H h) (k:∀ b u,h.get? b=some u->h'.get? b=some u) (hp:h.objs.size<=a) (new:cZ P w (upd H a o) h' a o):fD P w (upd H a o) h':=fun b u e=>by
 have hn:=x.fresh hp
 by_cases hb:b=a
 ·subst hb;rw [bY] at e;cases e;exact new
 ·rw [bK hb] at e
  exact (x b u e).stay (fun c v _ q=>k c v q) (fun c q=>by rw [bK (cM q hn)];exact q) fun c xs q=>by rw [bK (cM q hn)];exact q
end
def Rd (H:Hp) (a:Addr) (u:HO):Prop:=H a=some u\/∃ o,H a=some (.frz o u)
variable {P:Program} {w:World}
theorem Rd.ok {u:HO} (r:Rd H a u) (x:fD P w H h):cZ P w H h a u:=by
 rcases r with r | ⟨o,r⟩
 ·exact x a u r
 ·obtain ⟨_,q⟩:=x a _ r
  exact q
def Jw:Option HO->Prop
 | some (.lst _)=>True
 | some (.dK _)=>True
 | some (.dT _)=>True
 | some (.dN _)=>True
 | some (.set _ _)=>True
 | some (.ins _ _ _)=>True
 | some (.ext _)=>True
 | _=>False
section
variable {P:Program} {w:World} {H:Hp} {h h':Heap} {x e:Addr} {o':HO}
theorem fD.write (ok:fD P w H h) (mu:Jw (H x)) (he:e=x\/H e=some (.own x)) (k:∀ b u,b≠e->h.get? b=some u->h'.get? b=some u) (heo:∃ u,h'.get? e=some u)
  (new:cZ P w (upd H x o') h' x o'):fD P w (upd H x o') h':=fun b u q=>by
 have nown:∀ c y,H c=some (.own y)->c≠x:=fun c y r z=>by subst z;rw [r] at mu;exact mu
 have ntup:∀ c xs,H c=some (.tup xs)->c≠x:=fun c xs r z=>by subst z;rw [r] at mu;exact mu
 by_cases hb:b=x
 ·subst hb;rw [bY] at q;cases q;exact new
 ·rw [bK hb] at q
  by_cases hbe:b=e
  ·have q':H b=some (.own x):=by
    rcases he with z | z
    ·exact absurd (hbe.trans z) hb
    ·rw [hbe];exact z
   rw [q] at q';cases q';obtain ⟨v,hv⟩:=heo;exact ⟨v,by rw [hbe];exact hv⟩
  ·refine (ok b u q).stay (fun c v hc r=>k c v ?_ r) (fun c r=>by rw [bK (nown c b r)];exact r) fun c xs r=>by rw [bK (ntup c xs r)];exact r
   rcases hc with rfl | hc
   ·exact hbe
   ·rintro rfl
    rcases he with z | z
    ·exact nown c b hc z
    ·rw [hc] at z;cases z;exact hb rfl
end
structure Un (fs ex:List Addr) (H H':Hp) (h h':Heap):Prop where
 keep:∀ b o,h.get? b=some o->H b=none->b ∉ fs->b ∉ ex->h'.get? b=some o
 slot:∀ b o,h.get? b=some o->H b=none->b∈fs->b ∉ ex->∃ sl,h'.get? b=some { o with slots:=sl }
 free:∀ b o,h.get? b=some o->H b=none->b ∉ ex->H' b=none
 there:∀ b o,h.get? b=some o->b ∉ ex->∃ o',h'.get? b=some o'
 tups:∀ b xs,H b=some (.tup xs)->H' b=some (.tup xs)
 frzs:∀ b o u,H b=some (.frz o u)->H' b=some (.frz o u)
 tbls:∀ b ps,H b=some (.tbl ps)->∃ more,H' b=some (.tbl (ps++more))
section
variable {fs fs' ex ex':List Addr} {H H1 H2:Hp} {h h1 h2 h':Heap} {a x e:Addr} {o:HO}
theorem Un.any (u:Un fs ex H H1 h h1) {b:Addr} {ob:Obj} (q:h.get? b=some ob) (n:H b=none) (hx:b ∉ ex):∃ sl,h1.get? b=some { ob with slots:=sl }:=by
 by_cases hb:b∈fs
 ·exact u.slot b ob q n hb hx
 ·exact ⟨ob.slots,u.keep b ob q n hb hx⟩
theorem Un.kept (k:∀ b u,h.get? b=some u->h'.get? b=some u):Un fs ex H H h h' :=
 ⟨fun b ob q _ _ _=>k b ob q,fun b ob q _ _ _=>⟨ob.slots,k b ob q⟩,fun _ _ _ n _=>n,fun b ob q _=>⟨ob,k b ob q⟩,fun _ _ q=>q,fun _ _ _ q=>q,fun _ ps q=>⟨#[],by rw [q];simp⟩⟩
theorem Un.refl:Un fs ex H H h h:=Un.kept fun _ _ q=>q
theorem Un.laid (k:∀ b u,h.get? b=some u->h'.get? b=some u) (hp:h.objs.size<=a) (hn:H a=none):Un fs ex H (upd H a o) h h' where
 keep:=fun b u q _ _ _=>k b u q
 slot:=fun b u q _ _ _=>⟨u.slots,k b u q⟩
 free:=fun b u q n _=>by rw [bK (Nat.ne_of_lt (Nat.lt_of_lt_of_le (Heap.lt_size q) hp))];exact n
 there:=fun b u q _=>⟨u,k b u q⟩
 tups:=fun b xs q=>by rw [bK (cM q hn)];exact q
 frzs:=fun b u xs q=>by rw [bK (cM q hn)];exact q
 tbls:=fun b ps q=>⟨#[],by rw [bK (cM q hn),q];simp⟩
theorem Un.write (mu:Jw (H x)) (he:e=x\/H e=some (.own x)) (k:∀ b u,b≠e->h.get? b=some u->h'.get? b=some u) (heo:∃ u,h'.get? e=some u):Un fs ex H (upd H x o) h h':=by
 have hx:∀ b,H b=none->b≠x:=fun b n z=>by subst z;rw [n] at mu;exact mu
 have hb:∀ b,H b=none->b≠e:=fun b n z=>by
  subst z
  rcases he with r | r
  ·exact hx b n r
  ·rw [n] at r;cases r
 have hm:∀ b u,H b=some u->¬ Jw (some u)->b≠x:=fun b u q nm z=>by subst z;rw [q] at mu;exact nm mu
 refine ⟨fun b u q n _ _=>k b u (hb b n) q,fun b u q n _ _=>⟨u.slots,k b u (hb b n) q⟩,fun b u q n _=>by rw [bK (hx b n)];exact n,fun b u q _=>?_,
  fun b xs q=>by rw [bK (hm b _ q fun z=>z)];exact q,fun b u xs q=>by rw [bK (hm b _ q fun z=>z)];exact q,fun b ps q=>⟨#[],by rw [bK (hm b _ q fun z=>z),q];simp⟩⟩
 by_cases hbe:b=e
 ·subst hbe;exact heo
 ·exact ⟨u,k b u hbe q⟩
end
def N1 (h:Heap) (H:Hp):List Addr:=(List.range h.objs.size).filter fun a=>(H a).isSome
def gK (h:Heap) (H:Hp):Heap:=PySem.W.hideAll h (N1 h H)
theorem Cz (h:Heap) (H:Hp):(gK h H).objs.size=h.objs.size:=PySem.W.hideAll_size _ _
variable {o:Obj}
theorem qW (e:h.get? b=some o) (n:H b=none):(gK h H).get? b=some o :=
 PySem.W.hideAll_get _ e fun hm=>by
  have q:(H b).isSome=true:=(List.mem_filter.mp hm).2;rw [n] at q;simp at q
theorem BY (e:(gK h H).get? b=some o):h.get? b=some o/\H b=none:=by
 have e':h.get? b=some o:=PySem.W.of_hideAll (N1 h H) e;refine ⟨e',?_⟩
 cases q:H b with
 | none=>rfl
 | some x =>
  have hm:b∈N1 h H:=List.mem_filter.mpr ⟨List.mem_range.mpr (Heap.lt_size e'),by simp [q]⟩;have z:(gK h H).get? b=none:=PySem.W.hideAll_none (N1 h H) hm;rw [z] at e;cases e
structure Mod (K:PySem.W.Frag) (mg:Str->Option Value) (base:Heap):Prop where
 kin:K.In base
 glob:base.Ns mainGlobals mg
 blt:∃ mb,base.Ns builtinsNs mb/\∀ x:Str,x≠"__name__"->mb x=bootBuiltins x
 nolimit:base.NoLimit
structure Cx where
 prog:Program
 w:World
 K:PySem.W.Frag
 mg:Str->Option Value
 base:Heap
 A:Around
 N:List Str
 s₀:Shared
 H₀:Hp
 env:Env
 outer:List Env
 stack:List Env
 ex:List Addr
 fn:Str->Bool
 calm:Bool
 pn:List (Addr × Obj)
 xe:Value->Shared->Prop
def jU (l:List Env):List Addr:=l.filterMap (·.frame)
abbrev Cx.fs (X:Cx):List Addr:=jU X.outer
def GO (sc:Scope) (x:Str):Prop:=sc.names.lookup x=some .local\/sc.names.lookup x=some .cell\/sc.names.lookup x=some .free
def Loc (sc:Scope) (x:Str):Prop:=sc.names.lookup x=some .local\/sc.names.lookup x=some .cell
def Look (env:Env) (h:Heap) (m:Str->Option Value) (x:Str) (u:Value):Prop :=
 (env.kindOf x=some .local/\m x=some u)\/((env.kindOf x=some .cell\/env.kindOf x=some .free)/\∃ c,env.cells.lookup x=some c/\h.IsCell c (some u))
structure Cx.Ok (X:Cx):Prop where
 mod:Mod X.K X.mg X.base
 kind:X.env.scope.kind=.function
 glob:X.env.globals=mainGlobals
 blt:X.env.builtins=builtinsNs
 above:X.s₀.heap.objs.size<=X.env.locals
 inj:∀ x y c,X.env.cells.lookup x=some c->X.env.cells.lookup y=some c->x=y
 has:∀ x,(X.env.kindOf x=some .cell\/X.env.kindOf x=some .free)->∃ c,X.env.cells.lookup x=some c
 cab:∀ x c,X.fn x=true->X.env.cells.lookup x=some c->X.s₀.heap.objs.size<=c
 hd:X.calm=true->X.A.handled=none
 frames:X.A.frames=some X.stack
 stk:X.stack=X.outer\/(X.stack=X.env :: X.outer/\X.env.frame=some X.env.locals)
 exf:∀ b∈X.ex,b≠X.env.locals/\∀ x c,X.env.cells.lookup x=some c->c≠b
 bs:∀ b o,X.base.get? b=some o->X.s₀.heap.get? b=some o/\X.H₀ b=none
 bsz:X.base.objs.size<=X.s₀.heap.objs.size
 noex:∀ b o,X.base.get? b=some o->b ∉ X.ex
 exfs:∀ b∈X.ex,b ∉ X.fs
 funs:X.s₀.heap.FunFrames X.base X.outer
 frf:∀ b∈X.fs,X.H₀ b=none
structure Inv (X:Cx) (pins:List (Addr × Obj)) (σ:List (Option V)) (H:Hp) (s:Shared):Prop where
 ok:X.Ok
 os:s.os=X.s₀.os
 bare:AllBare s.gens
 base:Un X.fs X.ex X.H₀ H X.s₀.heap s.heap
 loc:∃ m,s.heap.Ns X.env.locals m/\∀ (i:Nat) (x:Str) (v:V),X.N[i]?=some x->σ[i]?=some (some v)->GO X.env.scope x->∃ u,RelV v u/\Look X.env s.heap m x u
 cell:∀ x c,X.env.cells.lookup x=some c->∃ v,s.heap.IsCell c v
 free:H X.env.locals=none
 freeC:∀ x c,X.env.cells.lookup x=some c->H c=none
 pin:∀ p∈X.pn++pins,s.heap.get? p.1=some p.2/\H p.1=none/\p.1≠X.env.locals/\p.1 ∉ X.fs/\∀ v,p.2.data≠.cell v
 hok:fD X.prog X.w H s.heap
 len:σ.length=X.N.length
section
variable {X:Cx} {pins:List (Addr × Obj)} {σ:List (Option V)} {H H':Hp} {s:Shared} {h':Heap}
theorem Cx.Ok.nofr (ok:X.Ok) {b:Addr} {o:Obj} (e:X.base.get? b=some o):b ∉ X.fs:=fun hb=>by
 have:=(ok.funs.mem hb).1
 rw [e] at this;cases this
theorem Inv.bs (I:Inv X pins σ H s):∀ b o,X.base.get? b=some o->s.heap.get? b=some o/\H b=none:=fun b o e =>
 ⟨I.base.keep b o (I.ok.bs b o e).1 (I.ok.bs b o e).2 (I.ok.nofr e) (I.ok.noex b o e),I.base.free b o (I.ok.bs b o e).1 (I.ok.bs b o e).2 (I.ok.noex b o e)⟩
theorem Inv.bk (I:Inv X pins σ H s):∀ b o,X.base.get? b=some o->s.heap.get? b=some o:=fun b o e=>(I.bs b o e).1
theorem Inv.mod (I:Inv X pins σ H s):Mod X.K X.mg X.base:=I.ok.mod
theorem Inv.kIn (I:Inv X pins σ H s):X.K.In s.heap:=I.ok.mod.kin.keeps I.bk
theorem Inv.fr (I:Inv X pins σ H s):∃ m,Fr X.base X.env.locals s.heap m :=
 let ⟨m,hn,_⟩:=I.loc
 ⟨m,hn,I.bk,Nat.le_trans I.ok.bsz I.ok.above⟩
theorem Inv.lt (I:Inv X pins σ H s):X.env.locals < s.heap.objs.size:=let ⟨_,hn,_⟩:=I.loc;hn.lt
theorem Inv.sz (I:Inv X pins σ H s):X.s₀.heap.objs.size<=s.heap.objs.size:=Nat.le_trans I.ok.above (Nat.le_of_lt I.lt)
theorem Inv.nofs (I:Inv X pins σ H s) {a:Addr} (h:s.heap.objs.size<=a):a ∉ X.fs:=fun hb=>by
 obtain ⟨_,o,ho,_⟩:=I.ok.funs.mem hb;exact absurd (Nat.lt_of_lt_of_le (Heap.lt_size ho) (Nat.le_trans I.sz h)) (Nat.lt_irrefl _)
theorem Inv.cne (I:Inv X pins σ H s):∀ x c,X.env.cells.lookup x=some c->c≠X.env.locals:=fun x c e z=>by
 obtain ⟨v,o,ho,hd⟩:=I.cell x c e;obtain ⟨m,⟨o',es,ep,ho',hd',_⟩,_⟩:=I.loc;rw [z,ho'] at ho;cases ho;rw [hd'] at hd;cases hd
theorem Inv.funs (I:Inv X pins σ H s):s.heap.FunFrames X.base X.outer:=by
 have all:∀ (l:List Env),(∀ b∈jU l,b∈X.fs)->X.s₀.heap.FunFrames X.base l->s.heap.FunFrames X.base l:=by
  intro l
  induction l with
  | nil=>intro _ _;trivial
  | cons env r ih =>
   intro hs hl;obtain ⟨hk,⟨L,o,hf,hn,ho,hd⟩,hr⟩:=hl;have hL:L∈X.fs:=hs L (by unfold jU;rw [List.filterMap_cons,hf];exact List.mem_cons_self);obtain ⟨sl,e⟩:=I.base.slot L o ho (I.ok.frf L hL) hL fun z=>I.ok.exfs L z hL;exact ⟨hk,⟨L,_,hf,hn,e,hd⟩,ih (fun b hb=>hs b (by unfold jU;rw [List.filterMap_cons,hf];exact List.mem_cons_of_mem _ hb)) hr⟩
 exact all X.outer (fun _ hb=>hb) I.ok.funs
theorem Inv.stack (I:Inv X pins σ H s):s.heap.FunFrames X.base X.stack:=by
 rcases I.ok.stk with e | ⟨e,hf⟩
 ·rw [e];exact I.funs
 ·rw [e]
  obtain ⟨m,hn,_⟩:=I.loc;refine .cons (by rw [I.ok.kind];decide) hf hn ?_ I.funs;exact Heap.get?_none_of_le (Nat.le_trans I.ok.bsz I.ok.above)
theorem Inv.stkSub (I:Inv X pins σ H s):∀ b∈jU X.stack,b∈X.env.locals :: X.fs:=fun b hb=>by
 rcases I.ok.stk with e | ⟨e,hf⟩
 ·rw [e] at hb;exact List.mem_cons_of_mem _ hb
 ·rw [e] at hb
  unfold jU at hb;rw [List.filterMap_cons,hf] at hb;exact hb
theorem Inv.stkFree (I:Inv X pins σ H s):∀ b∈jU X.stack,H b=none:=fun b hb=>by
 rcases List.mem_cons.mp (I.stkSub b hb) with e | hb
 ·rw [e];exact I.free
 ·obtain ⟨_,o,ho,_⟩:=I.ok.funs.mem hb
  exact I.base.free b o ho (I.ok.frf b hb) fun z=>I.ok.exfs b z hb
variable {g':Array GenState} {t':Nat} {d':Drawn} {ch:List Addr}
theorem Inv.step (I:Inv X pins σ H s)
  (hch:∀ b∈ch,(b∈X.ex\/X.s₀.heap.objs.size<=b)/\b≠X.env.locals/\(∀ x c,X.env.cells.lookup x=some c->c≠b)/\∀ p∈X.pn++pins,p.1≠b)
  (keep:∀ b o,b≠X.env.locals->b ∉ X.fs->b ∉ ch->s.heap.get? b=some o->H b=none->h'.get? b=some o)
  (slot:∀ b o,b≠X.env.locals->b∈X.fs->b ∉ ch->s.heap.get? b=some o->H b=none->∃ sl,h'.get? b=some { o with slots:=sl }) (free:∀ b o,b ∉ ch->s.heap.get? b=some o->H b=none->H' b=none)
  (there:∀ b o,b ∉ ch->s.heap.get? b=some o->∃ o',h'.get? b=some o')
  (tups:∀ b xs,H b=some (.tup xs)->H' b=some (.tup xs)) (frzs:∀ b o u,H b=some (.frz o u)->H' b=some (.frz o u)) (tbls:∀ b ps,H b=some (.tbl ps)->∃ more,H' b=some (.tbl (ps++more)))
  (ns:∀ m,s.heap.Ns X.env.locals m->h'.Ns X.env.locals m) (hok:fD X.prog X.w H' h') (hg:AllBare g') :
  Inv X pins σ H' { s with heap:=h',gens:=g',drawn:=d',toks:=t' }:=by
 have neL:∀ b o,X.s₀.heap.get? b=some o->b≠X.env.locals:=fun b o e=>Nat.ne_of_lt (Nat.lt_of_lt_of_le (Heap.lt_size e) I.ok.above)
 have neC:∀ b o,X.s₀.heap.get? b=some o->b ∉ X.ex->b ∉ ch:=fun b o e hx hb=>by
  rcases (hch b hb).1 with z | z
  ·exact hx z
  ·exact absurd (Nat.lt_of_lt_of_le (Heap.lt_size e) z) (Nat.lt_irrefl _)
 have cellK:∀ x c,X.env.cells.lookup x=some c->∀ v,s.heap.IsCell c v->h'.IsCell c v:=fun x c e v ⟨o,ho,hd⟩=>by
  have nch:c ∉ ch:=fun z=>(hch c z).2.2.1 x c e rfl
  by_cases hc:c∈X.fs
  ·obtain ⟨sl,q⟩:=slot c o (I.cne x c e) hc nch ho (I.freeC x c e)
   exact ⟨_,q,hd⟩
  ·exact ⟨o,keep c o (I.cne x c e) hc nch ho (I.freeC x c e),hd⟩
 refine ⟨I.ok,I.os,hg,⟨fun b o e n hb hx=>?_,fun b o e n hb hx=>?_,fun b o e n hx=>?_,fun b o e hx=>?_,fun b xs e=>tups b xs (I.base.tups b xs e),fun b o xs e=>frzs b o xs (I.base.frzs b o xs e),fun b ps e=>?_⟩,?_,fun x c e=>?_,?_,fun x c e=>?_,fun p hp=>?_,hok,I.len⟩
 ·exact keep b o (neL b o e) hb (neC b o e hx) (I.base.keep b o e n hb hx) (I.base.free b o e n hx)
 ·obtain ⟨sl,e1⟩:=I.base.slot b o e n hb hx
  obtain ⟨sl',e2⟩:=slot b _ (neL b o e) hb (neC b o e hx) e1 (I.base.free b o e n hx);exact ⟨sl',e2⟩
 ·obtain ⟨o',e1⟩:=I.base.there b o e hx
  exact free b o' (neC b o e hx) e1 (I.base.free b o e n hx)
 ·obtain ⟨o',e1⟩:=I.base.there b o e hx
  exact there b o' (neC b o e hx) e1
 ·obtain ⟨m1,e1⟩:=I.base.tbls b ps e
  obtain ⟨m2,e2⟩:=tbls b _ e1;exact ⟨m1++m2,by rw [e2,Array.append_assoc]⟩
 ·obtain ⟨m,hn,hl⟩:=I.loc
  refine ⟨m,ns m hn,fun i x v e1 e2 e3=>?_⟩;obtain ⟨u,r,l⟩:=hl i x v e1 e2 e3;refine ⟨u,r,?_⟩
  rcases l with l | ⟨k,c,e,z⟩
  ·exact .inl l
  ·exact .inr ⟨k,c,e,cellK x c e _ z⟩
 ·obtain ⟨v,z⟩:=I.cell x c e
  exact ⟨v,cellK x c e v z⟩
 ·obtain ⟨m,⟨o,_,_,ho,_⟩,_⟩:=I.loc
  exact free _ o (fun z=>(hch _ z).2.1 rfl) ho I.free
 ·obtain ⟨v,o,ho,hd⟩:=I.cell x c e
  exact free c o (fun z=>(hch c z).2.2.1 x c e rfl) ho (I.freeC x c e)
 ·obtain ⟨e,n,ne,nf,d⟩:=I.pin p hp
  have nch:p.1 ∉ ch:=fun z=>(hch p.1 z).2.2.2 p hp rfl;exact ⟨keep p.1 p.2 ne nf nch e n,free p.1 p.2 nch e n,ne,nf,d⟩
theorem Inv.un (I:Inv X pins σ H s) (u:Un X.fs [] H H' s.heap h') (hok:fD X.prog X.w H' h'):Inv X pins σ H' { s with heap:=h',toks:=t' }:=by
 obtain ⟨m,⟨o,es,ep,ho,r⟩,_⟩:=id I.loc;obtain ⟨sl,hL⟩:=u.any ho I.free (by simp)
 exact I.step (g':=s.gens) (d':=s.drawn) (ch:=[]) (fun _ z=>nomatch z) (fun b o _ hb _ e n=>u.keep b o e n hb (by simp)) (fun b o _ hb _ e n=>u.slot b o e n hb (by simp)) (fun b o _ e n=>u.free b o e n (by simp)) (fun b o _ e=>u.there b o e (by simp)) u.tups u.frzs u.tbls (fun m' hm=>by
  obtain ⟨o',es',ep',ho',r'⟩:=hm;rw [ho] at ho';cases ho'
  exact ⟨_,es',ep',hL,r'⟩) hok I.bare
theorem Inv.call (I:Inv X pins σ H s) (u:Un (jU X.stack) ch H H' s.heap h') (hok:fD X.prog X.w H' h') (hg:AllBare g')
  (hch:∀ b∈ch,(b∈X.ex\/X.s₀.heap.objs.size<=b)/\b≠X.env.locals/\(∀ x c,X.env.cells.lookup x=some c->c≠b)/\∀ p∈X.pn++pins,p.1≠b) :
  Inv X pins σ H' { s with heap:=h',gens:=g',drawn:=d',toks:=t' }:=by
 obtain ⟨m,⟨o,es,ep,ho,r⟩,_⟩:=id I.loc;obtain ⟨sl,hL⟩:=u.any ho I.free fun z=>(hch _ z).2.1 rfl
 exact I.step (ch:=ch) hch (fun b o hL hb hc e n=>u.keep b o e n (fun z=>(List.mem_cons.mp (I.stkSub b z)).elim hL hb) hc) (fun b o _ _ hc e n=>u.any e n hc) (fun b o hc e n=>u.free b o e n hc) (fun b o hc e=>u.there b o e hc) u.tups u.frzs u.tbls (fun m' hm=>by
  obtain ⟨o',es',ep',ho',r'⟩:=hm;rw [ho] at ho';cases ho'
  exact ⟨_,es',ep',hL,r'⟩) hok hg
theorem Inv.turned {it:Addr} (I:Inv X pins σ H s) (k:∀ b o,b≠it->s.heap.get? b=some o->h'.get? b=some o) (hn:H it=none) (hL:it≠X.env.locals)
  (h1:it∈X.ex\/X.s₀.heap.objs.size<=it) (h2:∀ x c,X.env.cells.lookup x=some c->c≠it) (h3:∀ p∈X.pn++pins,p.1≠it):Inv X pins σ H { s with heap:=h',toks:=t' }:=by
 have nit:∀ b u,H b=some u->b≠it:=fun b u e z=>by rw [z,hn] at e;cases e
 refine I.step (g':=s.gens) (d':=s.drawn) (ch:=[it]) (fun b hb=>?_) (fun b o _ _ hc e _=>k b o (fun z=>hc (by simp [z])) e) (fun b o _ _ hc e _=>⟨o.slots,k b o (fun z=>hc (by simp [z])) e⟩) (fun _ _ _ _ n=>n)
  (fun b o hc e=>⟨o,k b o (fun z=>hc (by simp [z])) e⟩) (fun _ _ e=>e) (fun _ _ _ e=>e) (fun b ps e=>⟨#[],by rw [e];simp⟩) (fun m hm=>?_) (fun b u e=>?_) I.bare
 ·have e:b=it:=by simpa using hb
  subst e;exact ⟨h1,hL,h2,h3⟩
 ·obtain ⟨o,es,ep,ho,r⟩:=hm
  exact ⟨o,es,ep,k _ o (Ne.symm hL) ho,r⟩
 ·refine (I.hok b u e).stay (fun c v hc q=>k c v ?_ q) (fun _ q=>q) fun _ _ q=>q
  rcases hc with z | z
  ·rw [z];exact nit b u e
  ·exact nit c _ z
theorem Inv.tok (I:Inv X pins σ H s) (t:Nat):Inv X pins σ H { s with toks:=t }:=I.un (h':=s.heap) (t':=t) Un.refl I.hok
theorem Inv.kept {t':Nat} (I:Inv X pins σ H s) (k:∀ b u,s.heap.get? b=some u->h'.get? b=some u):Inv X pins σ H { s with heap:=h',toks:=t' }:=I.un (Un.kept k) (I.hok.kept k)
theorem Inv.laid {a:Addr} {o:HO} {t':Nat} (I:Inv X pins σ H s) (k:∀ b u,s.heap.get? b=some u->h'.get? b=some u) (hp:s.heap.objs.size<=a) (new:cZ X.prog X.w (upd H a o) h' a o) :
  Inv X pins σ (upd H a o) { s with heap:=h',toks:=t' }:=I.un (Un.laid k hp (I.hok.fresh hp)) (I.hok.laid k hp new)
theorem Inv.write {x e:Addr} {o:HO} {t':Nat} (I:Inv X pins σ H s) (mu:Jw (H x)) (he:e=x\/H e=some (.own x)) (k:∀ b u,b≠e->s.heap.get? b=some u->h'.get? b=some u) (heo:∃ u,h'.get? e=some u)
  (new:cZ X.prog X.w (upd H x o) h' x o):Inv X pins σ (upd H x o) { s with heap:=h',toks:=t' }:=I.un (Un.write mu he k heo) (I.hok.write mu he k heo new)
theorem Inv.weak {σ':List (Option V)} (I:Inv X pins σ H s) (hl:σ'.length=σ.length) (w:∀ (i:Nat) v,σ'[i]?=some (some v)->σ[i]?=some (some v)):Inv X pins σ' H s :=
 ⟨I.ok,I.os,I.bare,I.base,let ⟨m,hn,hl'⟩:=I.loc;⟨m,hn,fun i x v e1 e2 e3=>hl' i x v e1 (w i v e2) e3⟩,I.cell,I.free,I.freeC,I.pin,I.hok,hl.trans I.len⟩
theorem Inv.pins_of {pins':List (Addr × Obj)} (I:Inv X pins σ H s) (h:∀ p∈pins',s.heap.get? p.1=some p.2/\H p.1=none/\p.1≠X.env.locals/\p.1 ∉ X.fs/\∀ v,p.2.data≠.cell v):Inv X pins' σ H s :=
 ⟨I.ok,I.os,I.bare,I.base,I.loc,I.cell,I.free,I.freeC,fun p hp=>(List.mem_append.mp hp).elim (fun z=>I.pin p (List.mem_append_left _ z)) (h p),I.hok,I.len⟩
variable {i:Nat} {x:Str}
theorem Eo {N:List Str} (hN:N.Nodup) {j:Nat} (a:N[i]?=some x) (b:N[j]?=some x):i=j:=by
 obtain ⟨h1,e1⟩:=List.getElem?_eq_some_iff.mp a;obtain ⟨h2,e2⟩:=List.getElem?_eq_some_iff.mp b;exact (List.getElem_inj hN).mp (e1.trans e2.symm)
variable {M:Model} {A:Around} {E:Value->Shared->Prop} {Q:Unit->Shared->Prop}
theorem Cf {v:V} {u:Value} (I:Inv X pins σ H s) (hN:X.N.Nodup) (hi:X.N[i]?=some x) (hx:Loc X.env.scope x) (r:RelV v u)
  (h:∀ s',Inv X pins (σ.set i (some v)) H s'->(∃ a,Heap.SameBut a s.heap s'.heap/\(a=X.env.locals\/X.env.cells.lookup x=some a))->Q () s') (hf:X.fn x=true\/X.env.scope.names.lookup x=some .local:=by first | exact .inl rfl | exact .inr rfl | assumption):wpAny M A (storeName X.env x u) Q E s:=by
 obtain ⟨m,hn,hl⟩:=id I.loc;have hcls:(X.env.scope.kind == .class || (X.env.scope.kind == .module && X.env.locals != X.env.globals))=false:=by rw [I.ok.kind];rfl
 have hiσ:i < σ.length:=by rw [I.len];exact (List.getElem?_eq_some_iff.mp hi).1
 have cne:=I.cne
 have tracked:∀ {a:Addr} {h':Heap},(∃ o,s.heap.get? a=some o/\H a=none)->Heap.SameBut a s.heap h'->fD X.prog X.w H h':=fun {a h'} ha hs b ob e=>by
  obtain ⟨_,_,hfree⟩:=ha;refine (I.hok b ob e).stay (fun c w' hc q=>(hs.2 c ?_).trans q) (fun _ q=>q) fun _ _ q=>q;rintro rfl
  rcases hc with rfl | hc
  ·rw [hfree] at e;cases e
  ·rw [hfree] at hc;cases hc
 rcases hx with hk | hk
 ·refine wpAny_storeName_local hk hn (fun h' hn' hs=>?_) hcls
  obtain ⟨oL,_,_,hoL,_⟩:=id hn;refine h _ ⟨I.ok,I.os,I.bare,⟨fun b o e n hb hx=>?_,fun b o e n hb hx=>?_,I.base.free,fun b o e hx=>?_,I.base.tups,I.base.frzs,I.base.tbls⟩,⟨_,hn',fun j y v' e1 e2 e3=>?_⟩,fun y c e=>?_,I.free,I.freeC,fun p hp=>?_,tracked ⟨oL,hoL,I.free⟩ hs,by simpa using I.len⟩ ⟨_,hs,.inl rfl⟩
  ·exact (hs.2 b (Nat.ne_of_lt (Nat.lt_of_lt_of_le (Heap.lt_size e) I.ok.above))).trans (I.base.keep b o e n hb hx)
  ·obtain ⟨sl,e1⟩:=I.base.slot b o e n hb hx
   exact ⟨sl,(hs.2 b (Nat.ne_of_lt (Nat.lt_of_lt_of_le (Heap.lt_size e) I.ok.above))).trans e1⟩
  ·obtain ⟨o',e1⟩:=I.base.there b o e hx
   exact ⟨o',(hs.2 b (Nat.ne_of_lt (Nat.lt_of_lt_of_le (Heap.lt_size e) I.ok.above))).trans e1⟩
  ·by_cases hj:j=i
   ·subst hj
    rw [hi] at e1;cases e1;rw [List.getElem?_set_self hiσ] at e2;cases e2;exact ⟨u,r,.inl ⟨hk,by simp⟩⟩
   ·rw [List.getElem?_set_ne (Ne.symm hj)] at e2
    obtain ⟨u',r',q⟩:=hl j y v' e1 e2 e3;refine ⟨u',r',?_⟩
    rcases q with ⟨k,e⟩ | ⟨k,c,e,z⟩
    ·refine .inl ⟨k,?_⟩
     have:y≠x:=fun e=>hj (Eo hN e1 (e ▸ hi))
     simp [this,e]
    ·exact .inr ⟨k,c,e,z.sameBut hs (cne y c e)⟩
  ·obtain ⟨w',z⟩:=I.cell y c e
   exact ⟨w',z.sameBut hs (cne y c e)⟩
  ·obtain ⟨e,n,ne,nf,d⟩:=I.pin p hp
   exact ⟨(hs.2 p.1 ne).trans e,n,ne,nf,d⟩
 ·have hfn:X.fn x=true:=by
   rcases hf with z | z
   ·exact z
   ·rw [z] at hk;cases hk
  obtain ⟨c,hc⟩:=I.ok.has x (.inl hk);obtain ⟨w',z⟩:=I.cell x c hc;refine wpAny_storeName_cell I.ok.kind hk hc z (fun h' hc' hs=>?_);obtain ⟨oc,hoc,hocd⟩:=id z;refine h { s with heap:=h' } ⟨I.ok,I.os,I.bare,⟨fun b o e n hb hx=>?_,fun b o e n hb hx=>?_,I.base.free,fun b o e hx=>?_,I.base.tups,I.base.frzs,I.base.tbls⟩,⟨m,hn.sameBut hs (Ne.symm (cne x c hc)),fun j y v' e1 e2 e3=>?_⟩,fun y c' e=>?_,I.free,I.freeC,fun p hp=>?_,tracked ⟨oc,hoc,I.freeC x c hc⟩ hs,by simpa using I.len⟩ ⟨c,hs,.inr hc⟩
  ·exact (hs.2 b (Nat.ne_of_lt (Nat.lt_of_lt_of_le (Heap.lt_size e) (I.ok.cab x c hfn hc)))).trans (I.base.keep b o e n hb hx)
  ·obtain ⟨sl,e1⟩:=I.base.slot b o e n hb hx
   exact ⟨sl,(hs.2 b (Nat.ne_of_lt (Nat.lt_of_lt_of_le (Heap.lt_size e) (I.ok.cab x c hfn hc)))).trans e1⟩
  ·obtain ⟨o',e1⟩:=I.base.there b o e hx
   exact ⟨o',(hs.2 b (Nat.ne_of_lt (Nat.lt_of_lt_of_le (Heap.lt_size e) (I.ok.cab x c hfn hc)))).trans e1⟩
  ·by_cases hj:j=i
   ·subst hj
    rw [hi] at e1;cases e1;rw [List.getElem?_set_self hiσ] at e2;cases e2;exact ⟨u,r,.inr ⟨.inl hk,c,hc,hc'⟩⟩
   ·rw [List.getElem?_set_ne (Ne.symm hj)] at e2
    obtain ⟨u',r',q⟩:=hl j y v' e1 e2 e3;refine ⟨u',r',?_⟩
    rcases q with q | ⟨k,c',e,z'⟩
    ·exact .inl q
    ·refine .inr ⟨k,c',e,z'.sameBut hs ?_⟩
     rintro rfl;exact hj (Eo hN e1 (I.ok.inj _ _ _ e hc ▸ hi))
  ·by_cases hcc:c'=c
   ·subst hcc;exact ⟨_,hc'⟩
   ·obtain ⟨w2,z2⟩:=I.cell y c' e
    exact ⟨w2,z2.sameBut hs hcc⟩
  ·obtain ⟨e,n,ne,nf,d⟩:=I.pin p hp
   refine ⟨(hs.2 p.1 ?_).trans e,n,ne,nf,d⟩;intro q;rw [q,hoc] at e;have q':oc=p.2:=Option.some.inj e;exact d w' (by rw [<- q'];exact hocd)
theorem Fi {v:V} {u:Value} (I:Inv X pins σ H s) (hN:X.N.Nodup) (hi:X.N[i]?=some x) (hx:Loc X.env.scope x) (r:RelV v u)
  (h:∀ s',Inv X pins (σ.set i (some v)) H s'->Q () s') (hf:X.fn x=true\/X.env.scope.names.lookup x=some .local:=by first | exact .inl rfl | exact .inr rfl | assumption):wpAny M A (storeName X.env x u) Q E s :=
 Cf I hN hi hx r (fun s' I' _=>h s' I') hf
theorem Inv.call' {s':Shared} (I:Inv X pins σ H s) (ho:s'.os=s.os) (u:Un (jU X.stack) ch H H' s.heap s'.heap) (hok:fD X.prog X.w H' s'.heap) (hg:AllBare s'.gens)
  (hch:∀ b∈ch,(b∈X.ex\/X.s₀.heap.objs.size<=b)/\b≠X.env.locals/\(∀ x c,X.env.cells.lookup x=some c->c≠b)/\∀ p∈X.pn++pins,p.1≠b):Inv X pins σ H' s':=by
 obtain ⟨h',g',d',t',o'⟩:=s';have e:o'=s.os:=ho;subst e;exact I.call (g':=g') (t':=t') (d':=d') u hok hg hch
end
abbrev XK:=Value->Option Addr->Hp->Prop
abbrev St:=List (Option V)
abbrev VK:=V->Hp->Prop
abbrev TE:=St->Hp->VK->Prop
abbrev TT:=St->Hp->(Bool->Hp->Prop)->Prop
abbrev TA:=St->Hp->(List V->Hp->Prop)->Prop
structure Ends where
 nx:St->Hp->Prop
 rt:VK
 bk:St->Hp->Prop:=fun _ _=>False
 ct:St->Hp->Prop:=fun _ _=>False
abbrev TS:=Ends->St->Hp->Prop
def EP (X:Cx) (pins:List (Addr × Obj)) (σ:St) (Q:VK) (u:Value) (s':Shared):Prop:=∃ v H',Inv X pins σ H' s'/\RelV v u/\Q v H'
def TP (X:Cx) (pins:List (Addr × Obj)) (σ:St) (Q:Bool->Hp->Prop) (b:Bool) (s':Shared):Prop:=∃ H',Inv X pins σ H' s'/\Q b H'
def AP (X:Cx) (pins:List (Addr × Obj)) (σ:St) (Q:List V->Hp->Prop) (us:List Value) (s':Shared):Prop:=∃ vs H',Inv X pins σ H' s'/\Vals vs us/\Q vs H'
def SP (X:Cx) (pins:List (Addr × Obj)) (D:Ends) (f:Flow) (s':Shared):Prop :=
 match f with
 | .next=>∃ σ' H',Inv X pins σ' H' s'/\D.nx σ' H'
 | .brk=>∃ σ' H',Inv X pins σ' H' s'/\D.bk σ' H'
 | .cont=>∃ σ' H',Inv X pins σ' H' s'/\D.ct σ' H'
 | .ret u=>∃ v σ' H',Inv X pins σ' H' s'/\RelV v u/\D.rt v H'
def PE (X:Cx) (e:Expr) (t:TE):Prop :=
 ∀ (pins:List (Addr × Obj)) (s:Shared) (σ:St) (H:Hp) (Q:VK),Inv X pins σ H s->t σ H Q->wpAny (model X.prog X.w) X.A (eval e X.env) (EP X pins σ Q) X.xe s
def PT (X:Cx) (e:Expr) (t:TT):Prop :=
 ∀ (pins:List (Addr × Obj)) (s:Shared) (σ:St) (H:Hp) (Q:Bool->Hp->Prop),Inv X pins σ H s->t σ H Q->wpAny (model X.prog X.w) X.A (isTrue e X.env (eval e X.env)) (TP X pins σ Q) X.xe s
def PW (X:Cx) (e:Expr) (t:TT):Prop :=
 ∀ (whole:Sem Value) (pins:List (Addr × Obj)) (s:Shared) (σ:St) (H:Hp) (Q:Bool->Hp->Prop),Inv X pins σ H s->t σ H Q->wpAny (model X.prog X.w) X.A (isTrue e X.env whole) (TP X pins σ Q) X.xe s
variable {X:Cx}
theorem PW.pt {e:Expr} {t:TT} (h:PW X e t):PT X e t:=h _
def PA (X:Cx) (es:List Expr) (t:TA):Prop :=
 ∀ (pos:Pos) (pins:List (Addr × Obj)) (s:Shared) (σ:St) (H:Hp) (Q:List V->Hp->Prop),Inv X pins σ H s->t σ H Q->wpAny (model X.prog X.w) X.A (spliced (backTo pos (starEach es X.env))) (AP X pins σ Q) X.xe s
def PS (X:Cx) (st:Stmt) (t:TS):Prop :=
 ∀ (pins:List (Addr × Obj)) (s:Shared) (σ:St) (H:Hp) (D:Ends),Inv X pins σ H s->t D σ H->wpAny (model X.prog X.w) X.A (exec st X.env) (SP X pins D) X.xe s
def rB (X:Cx) (st:List Stmt) (t:TS):Prop :=
 ∀ (pins:List (Addr × Obj)) (s:Shared) (σ:St) (H:Hp) (D:Ends),Inv X pins σ H s->t D σ H->wpAny (model X.prog X.w) X.A (execs st X.env) (SP X pins D) X.xe s
variable {M:Model} {A:Around} {E:Value->Shared->Prop} {s:Shared}
theorem bD {α:Type} {t:Sem α} {Q Q':α->Shared->Prop} (h:wpAny M A t Q E s) (hQ:∀ a s,Q a s->Q' a s):wpAny M A t Q' E s:=wpAny_mono h hQ fun _ _ x=>x
section
variable {X:Cx}
variable {pins:List (Addr × Obj)} {s:Shared} {σ:St} {H:Hp}
theorem bin {a b:Expr} {ta tb:TE} (ha:PE X a ta) (hb:PE X b tb) {R:V->V->Hp->Prop} (I:Inv X pins σ H s) (h:ta σ H fun x H1=>tb σ H1 fun y H2=>R x y H2)
  {α:Type} {Q:α->Shared->Prop} {f:Value->Value->Sem α}
  (hf:∀ v u s2 x y H2,Inv X pins σ H2 s2->RelV x v->RelV y u->R x y H2->wpAny (model X.prog X.w) X.A (f v u) Q X.xe s2) :
  wpAny (model X.prog X.w) X.A (eval a X.env) (fun v s₁=>wpAny (model X.prog X.w) X.A (eval b X.env) (fun u s₂=>wpAny (model X.prog X.w) X.A (f v u) Q X.xe s₂) X.xe s₁) X.xe s:=by
 refine bD (ha pins s σ H _ I h) fun v s1 ⟨x,H1,I1,r1,q1⟩=>?_;refine bD (hb pins s1 σ H1 _ I1 q1) fun u s2 ⟨y,H2,I2,r2,q2⟩=>?_;exact hf v u s2 x y H2 I2 r1 r2 q2
def Mw (i:Nat):TE:=fun σ H Q=>∃ v,σ[i]?=some (some v)/\Q v H
def tC (v:V):TE:=fun _ H Q=>Q v H
variable {x:Str}
theorem Kt {i:Nat} {pos:Pos} (hN:X.N[i]?=some x) (hv:GO X.env.scope x) (hd:(x == ("__debug__":Str))=false:=by decide) (hcd:(x == ("__classdict__":Str))=false:=by decide):PE X (.Name x pos) (Mw i):=by
 intro pins s σ H Q I h;obtain ⟨v,e,h⟩:=h;obtain ⟨m,hn,hl⟩:=I.loc;obtain ⟨u,r,l⟩:=hl i x v hN e hv;have fin:EP X pins σ Q u s:=⟨v,H,I,r,h⟩
 rcases l with ⟨hk,hm⟩ | ⟨hk,c,hc,hcell⟩
 ·exact wpAny_Name (wpAny_loadName_local I.ok.kind hk hn hm fin) hd
 ·rcases hk with hk | hk
  ·exact wpAny_Name (wpAny_loadName_cell I.ok.kind hk hc hcell fin) hd
  ·exact wpAny_Name (wpAny_loadName_free I.ok.kind hk hc hcell fin hcd) hd
theorem SY {i j pos}:PE X (.Constant (.int i) j pos) (tC (.int i)):=fun _ _ _ H _ I h=>wpAny_Constant_int ⟨.int i,H,I.tok _,⟨_,rfl⟩,h⟩
theorem TN {b j pos}:PE X (.Constant (.bool b) j pos) (tC (.bl b)):=fun _ _ _ H _ I h=>Constant_bool ⟨.bl b,H,I,rfl,h⟩
theorem R0 {j pos}:PE X (.Constant .none j pos) (tC .non):=fun _ _ _ H _ I h=>Constant_none ⟨.non,H,I,rfl,h⟩
theorem Ru {x j pos}:PE X (.Constant (.str x) j pos) (tC (.str x)):=fun _ _ _ H _ I h=>Calls.Constant_str ⟨.str x,H,I.tok _,⟨_,rfl⟩,h⟩
def Gl (X:Cx) (x:Str):Prop:=X.env.kindOf x=some .globalImplicit
variable {E Q:Value->Shared->Prop}
theorem yS {u:Value} {pos:Pos} (I:Inv X pins σ H s) (hg:Gl X x) (hm:X.mg x=some u) (h:Q u s)
  (hd:(x == ("__debug__":Str))=false:=by decide):wpAny (model X.prog X.w) X.A (eval (.Name x pos) X.env) Q E s :=
 Calls.Name_function_global I.ok.kind hg (Calls.loadGlobal_global (by rw [I.ok.glob];exact I.mod.glob.keeps I.bk) hm h) hd
theorem tH {u:Value} {pos:Pos} (I:Inv X pins σ H s) (hg:Gl X x) (hm:X.mg x=none) (hv:bootBuiltins x=some u) (h:Q u s)
  (hn:x≠"__name__":=by decide) (hd:(x == ("__debug__":Str))=false:=by decide):wpAny (model X.prog X.w) X.A (eval (.Name x pos) X.env) Q E s:=by
 obtain ⟨mb,h1,h2⟩:=I.mod.blt;exact Calls.Name_function_global I.ok.kind hg (Calls.loadGlobal_builtin (by rw [I.ok.glob];exact I.mod.glob.keeps I.bk) hm (by rw [I.ok.blt];exact h1.keeps I.bk) ((h2 x hn).trans hv) h) hd
theorem GN {v:V} {u:Value} {pos:Pos} (hg:Gl X x) (hm:X.mg x=some u) (r:RelV v u) (hd:(x == ("__debug__":Str))=false:=by decide):PE X (.Name x pos) (tC v) :=
 fun _ _ _ H _ I h=>yS I hg hm ⟨v,H,I,r,h⟩ hd
def Vz (ta tb:TE) (k:Int->Int->Hp->Prop):St->Hp->Prop:=fun σ H=>ta σ H fun x H1=>tb σ H1 fun y H2=>∃ i j,x=.int i/\y=.int j/\k i j H2
variable {a b:Expr} {ta tb:TE} {pos:Pos}
def BE (p:Int->Int->Bool) (ta tb:TE):TE:=fun σ H Q=>Vz ta tb (fun i j H2=>Q (.bl (p i j)) H2) σ H
abbrev VU:TE->TE->TE:=BE fun i j=>decide (i < j)
abbrev V5:TE->TE->TE:=BE fun i j=>decide (i<=j)
abbrev VY:TE->TE->TE:=BE fun i j=>decide (j < i)
abbrev V0:TE->TE->TE:=BE fun i j=>decide (j<=i)
abbrev VN:TE->TE->TE:=BE fun i j=>decide (i=j)
abbrev VM:TE->TE->TE:=BE fun i j=>!decide (i=j)
variable {tA tB':TT} {rest:List Expr}
def Sr (t u:TT):TT:=fun σ H Q=>t σ H fun c H1=>if c=true then u σ H1 Q else Q false H1
def UM (t u:TT):TT:=fun σ H Q=>t σ H fun c H1=>if c=true then Q true H1 else u σ H1 Q
def Sg (t:TT):TT:=fun σ H Q=>t σ H fun c H1=>Q (!c) H1
theorem Px (ha:PT X a tA):PW X (.BoolOp .And [a] pos) tA:=by
 intro wh pins s σ H Q I h;refine isTrue_and (bD (ha pins s σ H Q I h) fun c s1 e=>?_)
 cases c with
 | true=>exact isTrue_and_nil e
 | false=>exact e
theorem SV (ha:PT X a tA):PW X (.BoolOp .Or [a] pos) tA:=by
 intro wh pins s σ H Q I h;refine isTrue_or (bD (ha pins s σ H Q I h) fun c s1 e=>?_)
 cases c with
 | false=>exact isTrue_or_nil e
 | true=>exact e
theorem RE (ha:PT X a tA) (hb:PW X (.BoolOp .And (b :: rest) pos) tB'):PW X (.BoolOp .And (a :: b :: rest) pos) (Sr tA tB'):=by
 intro wh pins s σ H Q I h;refine isTrue_and (bD (ha pins s σ H _ I h) fun c s1 ⟨H1,I1,q1⟩=>?_)
 cases c with
 | true=>exact hb wh pins s1 σ H1 Q I1 q1
 | false=>exact ⟨H1,I1,q1⟩
theorem Uo (ha:PT X a tA) (hb:PW X (.BoolOp .Or (b :: rest) pos) tB'):PW X (.BoolOp .Or (a :: b :: rest) pos) (UM tA tB'):=by
 intro wh pins s σ H Q I h;refine isTrue_or (bD (ha pins s σ H _ I h) fun c s1 ⟨H1,I1,q1⟩=>?_)
 cases c with
 | true=>exact ⟨H1,I1,q1⟩
 | false=>exact hb wh pins s1 σ H1 Q I1 q1
theorem Rh (ha:PT X a tA):PT X (.UnaryOp .Not a pos) (Sg tA):=by
 intro pins s σ H Q I h;exact isTrue_not (ha pins s σ H (fun c H1=>Q (!c) H1) I h)
def Oq (ta tb:TE):TE:=fun σ H Q=>ta σ H fun x H1=>∃ c,x=.bl c/\if c=true then tb σ H1 Q else Q (.bl false) H1
theorem SO {op} {t:TE} (h:PE X a t):PE X (.BoolOp op [a] pos) t:=fun pins s σ H Q I hw=>BoolOp_one (h pins s σ H Q I hw)
theorem Sq (ha:PE X a ta) (hb:PE X (.BoolOp .And (b :: rest) pos) tb):PE X (.BoolOp .And (a :: b :: rest) pos) (Oq ta tb):=by
 intro pins s σ H Q I h;refine BoolOp_and (bD (ha pins s σ H _ I h) fun v s1 ⟨x,H1,I1,r1,q1⟩=>?_);obtain ⟨c,rfl,q1⟩:=q1;cases r1;refine wpAny_truthy_bool ?_
 cases c with
 | true=>exact hb pins s1 σ H1 Q I1 q1
 | false=>exact ⟨.bl false,H1,I1,rfl,q1⟩
def UQ (t:TT) (ta tb:TE):TE:=fun σ H Q=>t σ H fun c H1=>if c=true then ta σ H1 Q else tb σ H1 Q
theorem ML {c:Expr} (hc:PT X c tA) (ha:PE X a ta) (hb:PE X b tb):PE X (.IfExp c a b pos) (UQ tA ta tb):=by
 intro pins s σ H Q I h;refine wpAny_IfExp (bD (hc pins s σ H _ I h) fun d s1 ⟨H1,I1,q1⟩=>?_)
 cases d with
 | true=>exact ha pins s1 σ H1 Q I1 q1
 | false=>exact hb pins s1 σ H1 Q I1 q1
end
def eR (K:PySem.W.Frag) (H:Hp) (a:Addr) (xs:List V):Prop :=
 Rd H a (.lst xs) \/
  ∃ (o:Obj) (its:Array Value) (n:Nat),K.lookup a=some o/\o.cls=.type "list"/\o.dict=none/\o.data=.seq its n/\its.size<=sizeLine/\Vals xs its.toList
def fR (K:PySem.W.Frag) (H:Hp) (a:Addr) (xs:List V):Prop :=
 Rd H a (.tup xs) \/
  ∃ (o:Obj) (its:Array Value) (n:Nat),K.lookup a=some o/\o.cls=.type "tuple"/\o.dict=none/\o.data=.seq its n/\its.size<=sizeLine/\Vals xs its.toList
def U5:Value->Option V
 | .none=>some .non
 | .bool b=>some (.bl b)
 | .int i _=>some (.int i)
 | .str x _=>some (.str x)
 | .bytes b _=>some (.byt b)
 | .float b _=>some (.flt b)
 | .ref a=>some (.ref a)
 | .type n=>some (.ty n)
 | _=>none
theorem RelV.abs {x:V} {u:Value} (r:RelV x u):U5 u=some x:=by
 cases x with
 | non=>cases r;rfl
 | bl _=>cases r;rfl
 | int _=>obtain ⟨t,rfl⟩:=r;rfl
 | str _=>obtain ⟨t,rfl⟩:=r;rfl
 | byt _=>obtain ⟨t,rfl⟩:=r;rfl
 | flt _=>obtain ⟨t,rfl⟩:=r;rfl
 | ref _=>cases r;rfl
 | ty _=>cases r;rfl
theorem RelV.inj {x y:V} {u:Value} (r:RelV x u) (q:RelV y u):x=y:=Option.some.inj (r.abs.symm.trans q.abs)
theorem Vals.inj:∀ {xs ys:List V} {us:List Value},Vals xs us->Vals ys us->xs=ys
 | _,_,_,.nil,.nil=>rfl
 | _,_,_,.cons r t,.cons r' t'=>by rw [r.inj r',Vals.inj t t']
section
variable {X:Cx} {pins:List (Addr × Obj)} {σ:St} {H:Hp} {s:Shared} {a:Addr} {xs ys:List V}
theorem Inv.list (I:Inv X pins σ H s) (h:eR X.K H a xs):∃ its:List Value,Vals xs its/\PlainL s.heap a its.toArray/\xs.length<=sizeLine:=by
 rcases h with h | ⟨o,its,n,hk,hc,hd,hs,hz,r⟩
 ·obtain ⟨z,its,n,r,e⟩:=h.ok I.hok
  exact ⟨its,r,⟨_,n,e,rfl,rfl,rfl⟩,z⟩
 ·refine ⟨its.toList,r,⟨o,n,I.kIn a o hk,hc,hd,by simpa using hs⟩,?_⟩
  have e:=r.length;simp only [Array.length_toList] at e;omega
theorem Inv.tupleP (I:Inv X pins σ H s) (h:fR X.K H a xs):∃ its:List Value,Vals xs its/\jM s.heap a its.toArray/\xs.length<=sizeLine:=by
 rcases h with h | ⟨o,its,n,hk,hc,hd,hs,hz,r⟩
 ·obtain ⟨z,its,r,p⟩:=h.ok I.hok
  exact ⟨its,r,p,z⟩
 ·refine ⟨its.toList,r,⟨o,I.kIn a o hk,hc,hd,n,by simpa using hs⟩,?_⟩
  have e:=r.length;simp only [Array.length_toList] at e;omega
theorem Inv.tuple (I:Inv X pins σ H s) (h:fR X.K H a xs):∃ its:List Value,Vals xs its/\IsTup s.heap a its.toArray/\xs.length<=sizeLine:=by
 obtain ⟨its,r,p,z⟩:=I.tupleP h;exact ⟨its,r,p.tup,z⟩
theorem Inv.list_inj (I:Inv X pins σ H s) (h:eR X.K H a xs) (h':eR X.K H a ys):xs=ys:=by
 obtain ⟨its,r,⟨o,n,e,_,_,d⟩,_⟩:=I.list h;obtain ⟨its',r',⟨o',n',e',_,_,d'⟩,_⟩:=I.list h';rw [e] at e';cases e';rw [d] at d'
 injection d' with d1 _
 have:its=its':=by simpa using congrArg Array.toList d1
 subst this;exact r.inj r'
theorem Inv.tuple_inj (I:Inv X pins σ H s) (h:fR X.K H a xs) (h':fR X.K H a ys):xs=ys:=by
 obtain ⟨its,r,⟨o,e,_,n,d⟩,_⟩:=I.tuple h;obtain ⟨its',r',⟨o',e',_,n',d'⟩,_⟩:=I.tuple h';rw [e] at e';cases e';rw [d] at d'
 injection d' with d1 _
 have:its=its':=by simpa using congrArg Array.toList d1
 subst this;exact r.inj r'
end
abbrev Cx.wish (X:Cx) (E:Value->Shared->Prop):Cx:={ X with xe:=E }
abbrev Cx.nox (X:Cx):Cx:=X.wish fun _ _=>False
theorem Cx.Ok.wish {X:Cx} (ok:X.Ok) (E:Value->Shared->Prop):(X.wish E).Ok :=
 ⟨ok.mod,ok.kind,ok.glob,ok.blt,ok.above,ok.inj,ok.has,ok.cab,ok.hd,ok.frames,ok.stk,ok.exf,ok.bs,ok.bsz,ok.noex,ok.exfs,ok.funs,ok.frf⟩
theorem Cx.Ok.unwish (ok:(X.wish E).Ok):X.Ok :=
 ⟨ok.mod,ok.kind,ok.glob,ok.blt,ok.above,ok.inj,ok.has,ok.cab,ok.hd,ok.frames,ok.stk,ok.exf,ok.bs,ok.bsz,ok.noex,ok.exfs,ok.funs,ok.frf⟩
section
variable {X:Cx} {pins:List (Addr × Obj)} {σ:St} {H:Hp} {s:Shared} {E:Value->Shared->Prop}
theorem Inv.wish (I:Inv X pins σ H s) (E:Value->Shared->Prop):Inv (X.wish E) pins σ H s:=⟨I.ok.wish E,I.os,I.bare,I.base,I.loc,I.cell,I.free,I.freeC,I.pin,I.hok,I.len⟩
theorem Inv.unwish (I:Inv (X.wish E) pins σ H s):Inv X pins σ H s:=⟨I.ok.unwish,I.os,I.bare,I.base,I.loc,I.cell,I.free,I.freeC,I.pin,I.hok,I.len⟩
theorem SP.unwish {D:Ends} {f:Flow} {s':Shared} (h:SP (X.wish E) pins D f s'):SP X pins D f s':=by
 cases f with
 | next=>obtain ⟨σ',H',I,q⟩:=h;exact ⟨σ',H',I.unwish,q⟩
 | brk=>obtain ⟨σ',H',I,q⟩:=h;exact ⟨σ',H',I.unwish,q⟩
 | cont=>obtain ⟨σ',H',I,q⟩:=h;exact ⟨σ',H',I.unwish,q⟩
 | ret u=>obtain ⟨v,σ',H',I,r,q⟩:=h;exact ⟨v,σ',H',I.unwish,r,q⟩
theorem rB.nox {st:List Stmt} {t:TS} (h:rB X.nox st t):rB X st t:=fun pins s σ H D I hw =>
 wpAny_mono (h pins s σ H D (I.wish _) hw) (fun _ _ q=>q.unwish) fun _ _ z=>False.elim z
end
section
variable {X:Cx} {st:Stmt} {rest:List Stmt} {t u:TS} {e:Expr} {te:TE} {pos:Pos}
def Ow:TS:=fun D σ H=>D.nx σ H
def S0 (t u:TS):TS:=fun D σ H=>t { D with nx:=u D } σ H
theorem P6:rB X [] Ow:=fun _ _ σ H _ I h=>wpAny_execs_nil ⟨σ,H,I,h⟩
theorem MW (h1:PS X st t) (h2:rB X rest u):rB X (st :: rest) (S0 t u):=by
 intro pins s σ H D I h;refine wpAny_execs_cons (bD (h1 pins s σ H { D with nx:=u D } I h) fun f s1 q=>?_)
 cases f with
 | next =>
  obtain ⟨σ',H',I',q⟩:=q;exact h2 pins s1 σ' H' D I' q
 | ret v=>exact q
 | brk=>exact q
 | cont=>exact q
theorem Pg (h1:PS X st t):rB X [st] t:=by
 intro pins s σ H D I h;refine wpAny_execs_cons (bD (h1 pins s σ H D I h) fun f s1 q=>?_)
 cases f with
 | next=>exact wpAny_execs_nil q
 | ret v=>exact q
 | brk=>exact q
 | cont=>exact q
theorem Inv.quiet {pins:List (Addr × Obj)} {σ:St} {H:Hp} {s:Shared} (I:Inv X pins σ H s):interactive X.env=false:=by simp [interactive,I.ok.kind]
def Oi (te:TE):TS:=fun D σ H=>te σ H fun _ H1=>D.nx σ H1
theorem Pl (he:PE X e te) (hs:swapsWith e none pos.line X.env=pure false:=by rfl):PS X (.Expr e pos) (Oi te):=by
 intro pins s σ H D I h;exact wpAny_Expr_any (bD (he pins s σ H _ I h) fun v s1 ⟨x,H1,I1,r1,q1⟩=>⟨σ,H1,I1,q1⟩) I.quiet hs
def Ri (te:TE):TS:=fun D σ H=>te σ H D.rt
theorem Sd (he:PE X e te):PS X (.Return (some e) pos) (Ri te):=by
 intro pins s σ H D I h;exact wpAny_Return_some (bD (he pins s σ H _ I h) fun v s1 ⟨x,H1,I1,r1,q1⟩=>⟨x,σ,H1,I1,r1,q1⟩)
def Rc (c:TT) (t u:TS):TS:=fun D σ H=>c σ H fun b H1=>if b=true then t D σ H1 else u D σ H1
theorem TK {c:Expr} {a b:List Stmt} {tc:TT} (hc:PT X c tc) (ha:rB X a t) (hb:rB X b u):PS X (.If c a b pos) (Rc tc t u):=by
 intro pins s σ H D I h;refine wpAny_If (bD (hc pins s σ H _ I h) fun d s1 ⟨H1,I1,q1⟩=>?_)
 cases d with
 | true=>exact ha pins s1 σ H1 D I1 q1
 | false=>exact hb pins s1 σ H1 D I1 q1
end
abbrev TG:=V->St->Hp->(St->Hp->Prop)->Prop
abbrev qY:=List V->St->Hp->(St->Hp->Prop)->Prop
def PG (X:Cx) (target:Expr) (t:TG):Prop :=
 ∀ (pins:List (Addr × Obj)) (s:Shared) (σ:St) (H:Hp) (v:V) (u:Value) (Q:St->Hp->Prop),Inv X pins σ H s->RelV v u->t v σ H Q ->
  wpAny (model X.prog X.w) X.A (assign target X.env u) (fun _ s'=>∃ σ' H',Inv X pins σ' H' s'/\Q σ' H') X.xe s
def Ji (X:Cx) (ts:List Expr) (t:qY):Prop :=
 ∀ (pins:List (Addr × Obj)) (s:Shared) (σ:St) (H:Hp) (vs:List V) (us:List Value) (Q:St->Hp->Prop),Inv X pins σ H s->Vals vs us->t vs σ H Q ->
  wpAny (model X.prog X.w) X.A (assignInOrder ((assignEach ts X.env).map (·.2)) us) (fun _ s'=>∃ σ' H',Inv X pins σ' H' s'/\Q σ' H') X.xe s
abbrev NS:=V->V->V->Hp->(Hp->Prop)->Prop
def Tj (X:Cx) (t:NS):Prop :=
 ∀ (pins:List (Addr × Obj)) (s:Shared) (σ:St) (H:Hp) (o i v:V) (ov iv u:Value) (Q:Hp->Prop),Inv X pins σ H s->RelV o ov->RelV i iv->RelV v u->t o i v H Q ->
  wpAny (model X.prog X.w) X.A (setItem ov iv u) (fun _ s'=>∃ H',Inv X pins σ H' s'/\Q H') X.xe s
abbrev VT:=V->V->Hp->VK->Prop
section
variable {X:Cx} {pos:Pos}
def vD (i:Nat):TG:=fun v σ H Q=>Q (σ.set i (some v)) H
variable {i:Nat} {x:Str}
theorem P4 (hN:X.N.Nodup) (hi:X.N[i]?=some x) (hx:Loc X.env.scope x) (hf:X.fn x=true\/X.env.scope.names.lookup x=some .local:=by first | exact .inl rfl | exact .inr rfl | assumption):PG X (.Name x pos) (vD i):=by
 intro pins s σ H v u Q I r h;exact wpAny_assign_Name (Fi I hN hi hx r (fun s' I'=>⟨_,H,I',h⟩) hf)
def EA:qY:=fun vs σ H Q=>vs=[]/\Q σ H
def A1 (t:TG) (u:qY):qY:=fun vs σ H Q=>∃ v r,vs=v :: r/\t v σ H fun σ' H'=>u r σ' H' Q
theorem PC:Ji X [] EA:=by
 intro pins s σ H vs us Q I r h;obtain ⟨e,h⟩:=h;subst e;cases r;exact assignInOrder_nil ⟨σ,H,I,h⟩
variable {e:Expr} {es:List Expr}
theorem LB {t:TG} {u:qY} (h1:PG X e t) (h2:Ji X es u)
  (hs:(assignEach (e :: es) X.env).map (·.2)=assign e X.env :: (assignEach es X.env).map (·.2):=by rfl):Ji X (e :: es) (A1 t u):=by
 intro pins s σ H vs us Q I r h;obtain ⟨v,vr,e1,h⟩:=h;subst e1
 cases r with
 | cons r rr =>
  rw [hs];refine assignInOrder_cons (bD (h1 pins s σ H _ _ _ I r h) fun _ s1 ⟨σ1,H1,I1,q1⟩=>?_);exact h2 pins s1 σ1 H1 _ _ Q I1 rr q1
def DV (K:PySem.W.Frag) (n:Nat) (t:qY):TG:=fun v σ H Q=>∃ a xs,v=.ref a/\fR K H a xs/\xs.length=n/\t xs σ H Q
theorem S3 {k:Nat} {t:qY} {n:Nat} (hc:X.calm=true) (h:Ji X es t)
  (hn:(assignEach es X.env).length=n:=by rfl) (hst:(assignEach es X.env).findIdx? (·.1)=none:=by rfl):PG X (.Tuple es k pos) (DV X.K n t):=by
 intro pins s σ H v u Q I r hw;obtain ⟨a,xs,e1,hq,hl,hw⟩:=hw;subst e1;cases r;obtain ⟨its,rv,ht,hz⟩:=I.tuple hq;refine assign_Tuple_tuple (I.ok.hd hc) ht (by simp [hn,<- hl,rv.length]) hst fun h' hx=>?_;have I1:Inv X pins σ H { s with heap:=h' }:=I.kept (t':=s.toks) fun b o e=>hx b o (Nat.ne_of_lt (Heap.lt_size e)) e;exact h pins _ σ H xs _ Q I1 (by simpa using rv) hw
def Vh (to ti:TE) (t:NS):TG:=fun v σ H Q=>to σ H fun o H1=>ti σ H1 fun i H2=>t o i v H2 fun H3=>Q σ H3
theorem R1 {o i:Expr} {to ti:TE} {t:NS} (ho:PE X o to) (hi:PE X i ti) (hs:Tj X t)
  (ha:∀ v,assign (.Subscript o i pos) X.env v=(do
   let ov <- holding [v] (eval o X.env)
   let iv <- holding [v,ov] (eval i X.env)
   standAt pos
   holding [v,ov,iv] (setItem ov iv v)
   release [v,ov,iv] []):=by intro _;rfl):PG X (.Subscript o i pos) (Vh to ti t):=by
 intro pins s σ H v u Q I r h;rw [ha];refine wpAny_bind (wpAny_holding (bD (ho pins s σ H _ I h) fun ov s1 ⟨x,H1,I1,r1,q1⟩=>?_));refine wpAny_bind (wpAny_holding (bD (hi pins s1 σ H1 _ I1 q1) fun iv s2 ⟨y,H2,I2,r2,q2⟩=>?_));refine wpAny_bind (wpAny_standAt (wpAny_bind (wpAny_holding (bD (hs pins s2 σ H2 x y v ov iv u _ I2 r1 r2 r q2) fun _ s3 ⟨H3,I3,q3⟩=>?_))));exact wpAny_release ⟨σ,H3,I3,q3⟩
def Il (te:TE) (g:TG):TS:=fun D σ H=>te σ H fun x H1=>g x σ H1 D.nx
variable {te:TE}
theorem Th {tg:Expr} {g:TG} (he:PE X e te) (hg:PG X tg g) (hs:swapsWithSole [tg] e pos.line X.env=pure false:=by rfl) (hw:swappedStores [tg] e X.env=pure none:=by rfl)
  (h1:(assignEach [tg] X.env).map (·.2)=[assign tg X.env]:=by rfl):PS X (.Assign [tg] e pos) (Il te g):=by
 intro pins s σ H D I h;refine wpAny_Assign_stores (bD (he pins s σ H _ I h) fun v s1 ⟨x,H1,I1,r1,q1⟩=>?_) hs hw;rw [h1];exact bD (hg pins s1 σ H1 x v _ I1 r1 q1) fun _ s2 q=>q
theorem SH {pos':Pos} (hN:X.N.Nodup) (hi:X.N[i]?=some x) (hx:Loc X.env.scope x) (he:PE X e te) (hs:swapsWith e (some (.Name x pos')) pos.line X.env=pure false:=by rfl) (hf:X.fn x=true\/X.env.scope.names.lookup x=some .local:=by first | exact .inl rfl | exact .inr rfl | assumption) :
  PS X (.Assign [.Name x pos'] e pos) (Il te (vD i)):=by
 intro pins s σ H D I h;refine wpAny_Assign_Name (bD (he pins s σ H _ I h) fun v s1 ⟨y,H1,I1,r1,q1⟩=>?_) hs;exact Fi I1 hN hi hx r1 (fun s2 I2=>⟨_,H1,I2,q1⟩) hf
end
section
variable {X:Cx} {pos:Pos}
def J4 (c:TT) (tb:TS):TS:=fun D σ H=>∃ W:Nat->St->Hp->Prop,(∃ m,W m σ H)/\∀ m σ H,W m σ H ->
 c σ H fun b H1=>if b=true then ∃ N:St->Hp->Prop,(∀ σ' H',N σ' H'->∃ m',m' < m/\W m' σ' H')/\tb { D with nx:=N,ct:=N,bk:=D.nx } σ H1 else D.nx σ H1
theorem Nk {c:Expr} {body:List Stmt} {tc:TT} {tb:TS} (hp:PassesOwn (model X.prog X.w) X.A X.env X.xe) (hc:PT X c tc) (hb:rB X body tb):PS X (.While c body [] pos) (J4 tc tb):=by
 intro pins s σ H D I h;obtain ⟨W,⟨m0,w0⟩,turn⟩:=h;refine wpAny_While (codeAny_whileLoop (fun n s'=>∃ σ' H',Inv X pins σ' H' s'/\W n σ' H') ?_ m0 ⟨σ,H,I,w0⟩);rintro n s1 ⟨σ1,H1,I1,w1⟩;refine wpAny_passesOwn hp (bD (hc pins s1 σ1 H1 _ I1 (turn n σ1 H1 w1)) fun b s2 ⟨H2,I2,q2⟩=>?_)
 cases b with
 | true =>
  obtain ⟨N,hN,q2⟩:=q2;rw [if_pos rfl];refine wpAny_passesOwn hp (bD (hb pins s2 σ1 H2 _ I2 q2) fun f s3 q3=>?_)
  cases f with
  | next =>
   obtain ⟨σ3,H3,I3,n3⟩:=q3;obtain ⟨m',hm,w3⟩:=hN σ3 H3 n3;exact ⟨m',hm,σ3,H3,I3,w3⟩
  | cont =>
   obtain ⟨σ3,H3,I3,n3⟩:=q3;obtain ⟨m',hm,w3⟩:=hN σ3 H3 n3;exact ⟨m',hm,σ3,H3,I3,w3⟩
  | brk=>exact q3
  | ret v=>exact q3
 | false =>
  rw [if_neg Bool.false_ne_true];exact wpAny_execs_nil ⟨σ1,H2,I2,q2⟩
end
structure It where
 go:Nat->Hp->Prop
 yld:Nat->Hp->V->Hp->Prop
 stop:Nat->Hp->Prop
def vV (X:Cx) (pins:List (Addr × Obj)) (H:Hp) (b:Addr):Prop :=
 H b=none/\b≠X.env.locals/\b ∉ X.fs/\(b∈X.ex\/X.s₀.heap.objs.size<=b)/\(∀ x c,X.env.cells.lookup x=some c->c≠b)/\∀ p∈X.pn++pins,p.1≠b
theorem Inv.fpOk {pins:List (Addr × Obj)} {σ:St} {H':Hp} (I:Inv X pins σ H s) (hb:s.heap.objs.size<=b) (hn:H' b=none):vV X pins H' b:=by
 refine ⟨hn,Nat.ne_of_gt (Nat.lt_of_lt_of_le I.lt hb),I.nofs hb,.inr (Nat.le_trans I.sz hb),fun x c e z=>?_,fun p hp z=>?_⟩
 ·obtain ⟨v,q⟩:=I.cell x c e
  exact absurd (Nat.lt_of_lt_of_le q.lt (by rw [z];exact hb)) (Nat.lt_irrefl _)
 ·exact absurd (Nat.lt_of_lt_of_le (Heap.lt_size (I.pin p hp).1) (by rw [z];exact hb)) (Nat.lt_irrefl _)
structure Turn (P:Program) (w:World) (K:PySem.W.Frag) (tg:Expr) (J:It) (fp:List Addr) (it:Addr) (tn:Nat->Heap->Prop):Prop where
 mem:it∈fp
 obj:∀ i h,tn i h->∀ b∈fp,∃ o,h.get? b=some o/\∀ v,o.data≠.cell v
 keep:∀ i h h',tn i h->(∀ b∈fp,∀ o,h.get? b=some o->h'.get? b=some o)->tn i h'
 item:∀ (X:Cx),X.prog=P->X.w=w->X.K=K->X.calm=true->∀ (i:Nat) (pins:List (Addr × Obj)) (s:Shared) (σ:St) (H:Hp) (E:Value->Shared->Prop),Inv X pins σ H s->(∀ b∈fp,vV X pins H b)->tn i s.heap->J.go i H ->
  wpAny (model P w) X.A (pyNext (.ref it)) (fun r s1=>∃ u,r=some u /\
   wpAny (model P w) X.A (letOwnedTupleGo tg (.ref it) u) (fun _ s2=>∃ x H',Inv X pins σ H' s2/\RelV x u/\J.yld i H x H'/\tn (i + 1) s2.heap/\∀ b∈fp,H' b=none) E s1) E s
 done:∀ (X:Cx),X.prog=P->X.w=w->X.K=K->X.calm=true->∀ (i:Nat) (pins:List (Addr × Obj)) (s:Shared) (σ:St) (H:Hp) (E:Value->Shared->Prop),Inv X pins σ H s->(∀ b∈fp,vV X pins H b)->tn i s.heap->J.stop i H ->
  wpAny (model P w) X.A (pyNext (.ref it)) (fun r s1=>r=none/\Inv X pins σ H s1) E s
 self:∀ (A:Around) (i:Nat) (s:Shared) (Q:Value->Shared->Prop) (E:Value->Shared->Prop),tn i s.heap->Q (.ref it) s->wpAny (model P w) A (pyIter (.ref it)) Q E s
abbrev TI:=St->Hp->(It->Hp->Prop)->Prop
def UP (X:Cx) (pins:List (Addr × Obj)) (σ:St) (tg:Expr) (R:It->Hp->Prop) (itv:Value) (s2:Shared):Prop :=
 ∃ (it:Addr) (fp:List Addr) (tn:Nat->Heap->Prop) (J:It) (H':Hp),itv=.ref it/\Inv X pins σ H' s2/\Turn X.prog X.w X.K tg J fp it tn/\tn 0 s2.heap/\(∀ b∈fp,vV X pins H' b)/\R J H'
def PI (X:Cx) (tg iter:Expr) (wi:TI):Prop :=
 ∀ (pins:List (Addr × Obj)) (s:Shared) (σ:St) (H:Hp) (R:It->Hp->Prop),Inv X pins σ H s->wi σ H R ->
  wpAny (model X.prog X.w) X.A (eval iter X.env) (fun v s1=>wpAny (model X.prog X.w) X.A (pyIter v) (UP X pins σ tg R) X.xe s1) X.xe s
variable {tg:Expr}
theorem yW {it:Addr} {u:Value} {n:String} {vs:Array Value} {Q:Unit->Shared->Prop} (ho:s.heap.get? it=some o) (hc:o.cls=.type n) (hd:o.data=.fields vs)
    (hn:["enumerate","zip","dict_itemiterator","dict_reverseitemiterator","odict_iterator","itertools.zip_longest","itertools.pairwise"].contains n=false) (hQ:Q () s):wpAny M A (letOwnedTupleGo tg (.ref it) u) Q E s:=by
  unfold letOwnedTupleGo
  cases tg <;> first
    | exact wpAny_pure hQ
    | (cases u <;> first
        | exact wpAny_pure hQ
        | (refine wpAny_bind (wpAny_load ho ?_)
           rw [hc,hd]
           show wpAny M A (if (["enumerate","zip","dict_itemiterator","dict_reverseitemiterator","odict_iterator","itertools.zip_longest","itertools.pairwise"].contains n && vs[0]? == some (rawInt _))=true then _ else _) Q E s
           rw [if_neg (by intro h;rw [hn,Bool.false_and] at h;cases h)]
           exact wpAny_pure hQ))
def OD (K:PySem.W.Frag) (a:Addr):It :=
 ⟨fun i H=>∃ xs x,eR K H a xs/\xs[i]?=some x,fun i H x H'=>H'=H/\∀ xs,eR K H a xs->xs[i]?=some x,fun i H=>∃ xs,eR K H a xs/\xs.length<=i⟩
def RS (K:PySem.W.Frag) (a:Addr):It :=
 ⟨fun i H=>∃ xs x,fR K H a xs/\xs[i]?=some x,fun i H x H'=>H'=H/\∀ xs,fR K H a xs->xs[i]?=some x,fun i H=>∃ xs,fR K H a xs/\xs.length<=i⟩
def Ol (lo:Int) (n:Nat):It:=⟨fun i _=>i < n,fun i H x H'=>H'=H/\x=.int (lo + i),fun i _=>n<=i⟩
variable {K:PySem.W.Frag}
theorem KD (a it:Addr):Turn P w K tg (OD K a) [it] it (fun i h=>h.IsListIter it a i) where
 mem:=by simp
 obj:=fun i h st b hb=>by
  have e:b=it:=by simpa using hb
  subst e;obtain ⟨o,e,c,d⟩:=st;exact ⟨o,e,fun v z=>by rw [d] at z;cases z⟩
 keep:=fun i h h' st k=>st.at fun o e=>k it (by simp) o e
 item:=by
  intro X hP hw hK hc i pins s σ H E I hf st hg;subst hP hw hK;obtain ⟨xs,x,hq,hx⟩:=hg;obtain ⟨its,rv,p,hz⟩:=I.list hq;obtain ⟨u,hu,ru⟩:=rv.get hx;obtain ⟨f0,f1,f2,f3,f4,f5⟩:=hf it (by simp);refine wpAny_pyNext_list_item st p.isList (x:=u) (by simpa using hu) fun h' st' sb=>?_;have I1:Inv X pins σ H { s with heap:=h' }:=I.turned (t':=s.toks) (fun b o hb e=>(sb.2 b hb).trans e) f0 f1 f3 f4 f5;obtain ⟨o,e,c,d⟩:=id st';exact ⟨u,rfl,yW (s:={ s with heap:=h' }) e c d (by decide) ⟨x,H,I1,ru,⟨rfl,fun ys hy=>by rw [I.list_inj hy hq];exact hx⟩,st',fun b hb=>(hf b hb).1⟩⟩
 done:=by
  intro X hP hw hK hc i pins s σ H E I hf st hg;subst hP hw hK;obtain ⟨xs,hq,hx⟩:=hg;obtain ⟨its,rv,p,hz⟩:=I.list hq;obtain ⟨f0,f1,f2,f3,f4,f5⟩:=hf it (by simp);have hl:=rv.length;exact wpAny_pyNext_list_end (I.ok.hd hc) st p.isList (by simp;omega) fun h' eb=>⟨rfl,I.turned (t':=s.toks) (fun b o hb e=>eb b o hb e) f0 f1 f3 f4 f5⟩
 self:=fun _ _ _ _ _ st h=>wpAny_pyIter_listiter st h
theorem IP (a it:Addr):Turn P w K tg (RS K a) [it] it (fun i h=>h.IsTupleIter it a i) where
 mem:=by simp
 obj:=fun i h st b hb=>by
  have e:b=it:=by simpa using hb
  subst e;obtain ⟨o,e,c,d⟩:=st;exact ⟨o,e,fun v z=>by rw [d] at z;cases z⟩
 keep:=fun i h h' st k=>st.at fun o e=>k it (by simp) o e
 item:=by
  intro X hP hw hK hc i pins s σ H E I hf st hg;subst hP hw hK;obtain ⟨xs,x,hq,hx⟩:=hg;obtain ⟨its,rv,p,hz⟩:=I.tuple hq;obtain ⟨u,hu,ru⟩:=rv.get hx;obtain ⟨f0,f1,f2,f3,f4,f5⟩:=hf it (by simp);refine wpAny_pyNext_tuple_item st (show s.heap.IsTuple a its.toArray from p) (x:=u) (by simpa using hu) fun h' st' sb=>?_;have I1:Inv X pins σ H { s with heap:=h' }:=I.turned (t':=s.toks) (fun b o hb e=>(sb.2 b hb).trans e) f0 f1 f3 f4 f5;obtain ⟨o,e,c,d⟩:=id st';exact ⟨u,rfl,yW (s:={ s with heap:=h' }) e c d (by decide) ⟨x,H,I1,ru,⟨rfl,fun ys hy=>by rw [I.tuple_inj hy hq];exact hx⟩,st',fun b hb=>(hf b hb).1⟩⟩
 done:=by
  intro X hP hw hK hc i pins s σ H E I hf st hg;subst hP hw hK;obtain ⟨xs,hq,hx⟩:=hg;obtain ⟨its,rv,p,hz⟩:=I.tuple hq;obtain ⟨f0,f1,f2,f3,f4,f5⟩:=hf it (by simp);have hl:=rv.length;exact wpAny_pyNext_tuple_end (I.ok.hd hc) st (show s.heap.IsTuple a its.toArray from p) (by simp;omega) fun h' eb=>⟨rfl,I.turned (t':=s.toks) (fun b o hb e=>eb b o hb e) f0 f1 f3 f4 f5⟩
 self:=fun _ _ _ _ _ st h=>wpAny_pyIter_tupleiter st h
theorem HQ (it:Addr) (lo:Int) (n:Nat):Turn P w K tg (Ol lo n) [it] it (fun i h=>IsRangeIter h it (lo + (i:Nat) * 1) ((n:Int) - (i:Nat)) 1) where
 mem:=by simp
 obj:=fun i h st b hb=>by
  have e:b=it:=by simpa using hb
  subst e
  exact ⟨_,st,fun v z=>by
   have z':Data.fields _=Data.cell v:=z
   cases z'⟩
 keep:=fun i h h' st k=>k it (by simp) _ st
 item:=by
  intro X hP hw hK hc i pins s σ H E I hf st hg;subst hP hw hK;obtain ⟨f0,f1,f2,f3,f4,f5⟩:=hf it (by simp);have W:=Walks.range (prog:=X.prog) (w:=X.w) (I.ok.hd hc) it lo 1 n;refine W.item i s _ _ hg st fun v h' tk hv st' kk=>?_;obtain ⟨t,rfl⟩:=hv;have I1:Inv X pins σ H { s with heap:=h',toks:=tk }:=I.turned (fun b o hb e=>kk b o (by simpa using hb) e) f0 f1 f3 f4 f5
  refine ⟨_,rfl,yW (s:={ s with heap:=h',toks:=tk }) (n:="range_iterator") st' rfl rfl (by decide) ⟨.int (lo + i),H,I1,⟨t,?_⟩,⟨rfl,rfl⟩,st',fun b hb=>(hf b hb).1⟩⟩
  rw [Int.mul_one]
 done:=by
  intro X hP hw hK hc i pins s σ H E I hf st hg;subst hP hw hK;obtain ⟨f0,f1,f2,f3,f4,f5⟩:=hf it (by simp);exact wpAny_pyNext_range_end (I.ok.hd hc) st (by have:n<=i:=hg;omega) fun h' eb=>⟨rfl,I.turned (t':=s.toks) (fun b o hb e=>eb b o hb e) f0 f1 f3 f4 f5⟩
 self:=fun _ _ _ _ _ st h=>wpAny_pyIter_rangeiter st h
section
variable {X:Cx} {tg:Expr}
variable {pins:List (Addr × Obj)} {σ:St} {H:Hp} {s:Shared}
theorem NJ {R:It->Hp->Prop} {E:Value->Shared->Prop} {lo hi:Int} {t u v:Tok} {tk:Nat} (I:Inv X pins σ H s) (h1:-(2 ^ 62)<=lo) (h2:lo < 2 ^ 62) (h3:-(2 ^ 62)<=hi) (h4:hi < 2 ^ 62)
  (q:R (Ol lo (hi - lo).toNat) H):wpAny (model X.prog X.w) X.A (pyIter (.ref s.heap.objs.size)) (UP X pins σ tg R) E { s with heap:=s.heap.push { cls:=.type "range",data:=.fields #[.int lo t,.int hi u,.int 1 v] },toks:=tk }:=by
 refine wpAny_pyIter_range (IsRange.new ..) (small_one h1 h2 h3 h4) ?_
 have I1:Inv X pins σ H { s with heap:=s.heap.push { cls:=.type "range",data:=.fields #[.int lo t,.int hi u,.int 1 v] },toks:=tk }:=I.kept fun b o e=>Heap.get?_push_of_some _ e
 refine ⟨(s.heap.push { cls:=.type "range",data:=.fields #[.int lo t,.int hi u,.int 1 v] }).objs.size,[(s.heap.push { cls:=.type "range",data:=.fields #[.int lo t,.int hi u,.int 1 v] }).objs.size],_,_,H,rfl,
  I1.kept (t':=tk) fun b o e=>Heap.get?_push_of_some _ e,HQ _ lo (hi - lo).toNat,?_,fun b hb=>?_,q⟩
 ·have e1:lo + ((0:Nat):Int) * 1=lo:=by simp
  have e2:(((hi - lo).toNat:Nat):Int) - ((0:Nat):Int)=Builtin.Range.rangeSize lo hi 1:=by rw [rangeSize_one];split <;> omega
  show IsRangeIter _ _ (lo + ((0:Nat):Int) * 1) ((((hi - lo).toNat:Nat):Int) - ((0:Nat):Int)) 1;rw [e1,e2];exact Heap.get?_push_size _ rfl
 ·have e:b=(s.heap.push { cls:=.type "range",data:=.fields #[.int lo t,.int hi u,.int 1 v] }).objs.size:=by simpa using hb
  subst e;exact I1.fpOk (Nat.le_refl _) (I1.hok.fresh (Nat.le_refl _))
def ON (ta:TA):TI:=fun σ H R=>ta σ H fun vs H1=>∃ j:Int,vs=[.int j]/\-(2 ^ 62)<=j/\j < 2 ^ 62/\R (Ol 0 j.toNat) H1
variable {pos:Pos}
theorem Li {a:Expr} {ta:TA} {p:Pos} (hg:Gl X "range") (hm:X.mg "range"=none) (ha:PA X [a] ta) (hs:starEach [a] X.env=[(false,eval a X.env)]:=by rfl):PI X tg (.Call (.Name "range" p) [a] [] pos) (ON ta):=by
 intro pins s σ H R I h;refine Call_ (tH I hg hm boot_range (PyProof.Rows.callWith_type1 (bD (ha pos pins s σ H _ I h) fun us s1 ⟨vs,H1,I1,r1,q1⟩=>?_) hs rfl));obtain ⟨j,e,q1,q2,q⟩:=q1;subst e
 cases r1 with
 | cons r rr =>
  cases rr;obtain ⟨t,rfl⟩:=r;exact call_range_1 (NJ I1 (by omega) (by omega) q1 q2 (by simpa using q))
def SS (wi:TI) (g:TG) (tb:TS):TS:=fun D σ H=>wi σ H fun J H1=>∃ W:Nat->Nat->St->Hp->Prop,(∃ m,W 0 m σ H1)/\∀ i m σ H,W i m σ H ->
 (J.stop i H/\D.nx σ H)\/(J.go i H/\∃ N:St->Hp->Prop,(∀ σ' H',N σ' H'->∃ m',m' < m/\W (i + 1) m' σ' H')/\∀ x H',J.yld i H x H'->g x σ H' fun σ2 H2=>tb { D with nx:=N,ct:=N,bk:=D.nx } σ2 H2)
def wR (fp:List Addr) (h:Heap):List (Addr × Obj):=fp.filterMap fun b=>(h.get? b).map fun o=>(b,o)
variable {fp:List Addr} {h:Heap}
theorem qD {b:Addr} {o:Obj} (hb:b∈fp) (e:h.get? b=some o):(b,o)∈wR fp h:=List.mem_filterMap.mpr ⟨b,hb,by rw [e];rfl⟩
theorem Km {p:Addr × Obj} (hp:p∈wR fp h):p.1∈fp/\h.get? p.1=some p.2:=by
 obtain ⟨b,hb,e⟩:=List.mem_filterMap.mp hp
 cases q:h.get? b with
 | none=>rw [q] at e;cases e
 | some o =>
  rw [q] at e;have e':(b,o)=p:=Option.some.inj e;subst e';exact ⟨hb,q⟩
theorem Inv.pinned (I:Inv X pins σ H s) (hf:∀ b∈fp,vV X pins H b) (ho:∀ b∈fp,∃ o,s.heap.get? b=some o/\∀ v,o.data≠.cell v):Inv X (pins++wR fp s.heap) σ H s :=
 I.pins_of fun p hp=>(List.mem_append.mp hp).elim (fun z=>I.pin p (List.mem_append_right _ z)) fun z=>by
  obtain ⟨hb,e⟩:=Km z;obtain ⟨f0,f1,f2,_⟩:=hf p.1 hb;obtain ⟨o,e',d⟩:=ho p.1 hb;rw [e] at e';cases e';exact ⟨e,f0,f1,f2,d⟩
theorem Inv.unpinned {pl:List (Addr × Obj)} (I:Inv X (pins++pl) σ H s):Inv X pins σ H s:=I.pins_of fun p hp=>I.pin p (List.mem_append_right _ (List.mem_append_left _ hp))
theorem RJ {iter:Expr} {body:List Stmt} {wi:TI} {g:TG} {tb:TS} (hp:PassesOwn (model X.prog X.w) X.A X.env X.xe) (hc:X.calm=true) (hi:PI X tg iter wi) (hg:PG X tg g) (hb:rB X body tb)
  (hs:∀ x,foldedSetIterable iter X.env x=pure x:=by intro _;rfl):PS X (.For tg iter body [] pos) (SS wi g tb):=by
 intro pins s σ H D I h;refine wpAny_For (bD (hi pins s σ H _ I h) fun v s1 h1=>bD h1 fun itv s2 h2=>?_) hs;obtain ⟨it,fp,tn,J,H2,e,I2,T,cO,f2,W,⟨m0,w0⟩,turn⟩:=h2;subst e;have stat:∀ {H':Hp},(∀ b∈fp,H' b=none)->∀ b∈fp,vV X pins H' b:=fun hn b hb=>⟨hn b hb,(f2 b hb).2⟩;refine codeAny_forLoop_any (fun n s'=>∃ i σ' H',Inv X pins σ' H' s'/\tn i s'.heap/\(∀ b∈fp,H' b=none)/\W i n σ' H') ?_ m0 ⟨0,σ,H2,I2,cO,fun b hb=>(f2 b hb).1,w0⟩;rintro n s3 ⟨i,σ3,H3,I3,st3,fr3,w3⟩
 rcases turn i n σ3 H3 w3 with ⟨stop,qn⟩ | ⟨go,N,hN,step⟩
 ·refine wpAny_passesOwn hp (bD (T.done X rfl rfl rfl hc i pins s3 σ3 H3 X.xe I3 (stat fr3) st3 stop) fun r s4 ⟨hr,I4⟩=>?_)
  subst hr;exact wpAny_execs_nil ⟨σ3,H3,I4,qn⟩
 ·refine wpAny_passesOwn hp (bD (T.item X rfl rfl rfl hc i pins s3 σ3 H3 X.xe I3 (stat fr3) st3 go) fun r s4 ⟨u,hr,h4⟩=>?_)
  subst hr;refine wpAny_passesOwn hp (bD h4 fun _ s5 ⟨x,H5,I5,r5,y5,st5,fr5⟩=>?_);have I5':=I5.pinned (stat fr5) (T.obj _ _ st5);refine wpAny_passesOwn hp (bD (hg _ s5 σ3 H5 x u _ I5' r5 (step x H5 y5)) fun _ s6 ⟨σ6,H6,I6,q6⟩=>?_);refine wpAny_passesOwn hp (bD (hb _ s6 σ6 H6 _ I6 q6) fun f s7 q7=>?_)
  have again:∀ {σ7:St} {H7:Hp},Inv X (pins++wR fp s5.heap) σ7 H7 s7->N σ7 H7->∃ m,m < n/\∃ i σ' H',Inv X pins σ' H' s7/\tn i s7.heap/\(∀ b∈fp,H' b=none)/\W i m σ' H':=fun {σ7 H7} I7 n7=>by
   obtain ⟨m',hm,w7⟩:=hN σ7 H7 n7;refine ⟨m',hm,i + 1,σ7,H7,I7.unpinned,T.keep _ _ _ st5 fun b hb o e=>(I7.pin (b,o) (List.mem_append_right _ (List.mem_append_right _ (qD hb e)))).1,fun b hb=>?_,w7⟩;obtain ⟨o,e,d⟩:=T.obj _ _ st5 b hb;exact (I7.pin (b,o) (List.mem_append_right _ (List.mem_append_right _ (qD hb e)))).2.1
  cases f with
  | next=>obtain ⟨σ7,H7,I7,n7⟩:=q7;exact again I7 n7
  | cont=>obtain ⟨σ7,H7,I7,n7⟩:=q7;exact again I7 n7
  | brk=>obtain ⟨σ7,H7,I7,q7⟩:=q7;exact ⟨σ7,H7,I7.unpinned,q7⟩
  | ret v=>obtain ⟨x7,σ7,H7,I7,r7,q7⟩:=q7;exact ⟨x7,σ7,H7,I7.unpinned,r7,q7⟩
end
abbrev R2:=V->V->Hp->VK->Prop
def dI (X:Cx) (f:Value->Value->Sem Value) (r:R2):Prop :=
 ∀ (pins:List (Addr × Obj)) (s:Shared) (σ:St) (H:Hp) (x y:V) (v u:Value) (Q:VK),Inv X pins σ H s->RelV x v->RelV y u->r x y H Q ->
  wpAny (model X.prog X.w) X.A (f v u) (EP X pins σ Q) X.xe s
def SF (X:Cx) (f:Value->Sem Value) (r:V->Hp->VK->Prop):Prop :=
 ∀ (pins:List (Addr × Obj)) (s:Shared) (σ:St) (H:Hp) (x:V) (v:Value) (Q:VK),Inv X pins σ H s->RelV x v->r x H Q ->
  wpAny (model X.prog X.w) X.A (f v) (EP X pins σ Q) X.xe s
def kT (X:Cx) (f:Value) (r:List V->Hp->VK->Prop):Prop :=
 ∀ (pins:List (Addr × Obj)) (s:Shared) (σ:St) (H:Hp) (xs:List V) (us:List Value) (Q:VK),Inv X pins σ H s->Vals xs us->r xs H Q ->
  wpAny (model X.prog X.w) X.A (call f us) (EP X pins σ Q) X.xe s
def UZ (X:Cx) (r:V->Hp->(Bool->Hp->Prop)->Prop):Prop :=
 ∀ (pins:List (Addr × Obj)) (s:Shared) (σ:St) (H:Hp) (x:V) (v:Value) (Q:Bool->Hp->Prop),Inv X pins σ H s->RelV x v->r x H Q ->
  wpAny (model X.prog X.w) X.A (truthy v) (TP X pins σ Q) X.xe s
def E4 (r:R2) (ta tb:TE):TE:=fun σ H Q=>ta σ H fun x H1=>tb σ H1 fun y H2=>r x y H2 Q
def UB (r:V->Hp->VK->Prop) (ta:TE):TE:=fun σ H Q=>ta σ H fun x H1=>r x H1 Q
def rI (C:Int->Int->Prop) (g:Int->Int->V):R2:=fun x y H Q=>∃ i j,x=.int i/\y=.int j/\C i j/\Q (g i j) H
def vW (g:Int->Int->V):R2:=fun x y H Q=>∃ i j,x=.int i/\y=.int j/\Q (g i j) H
def rU (g:Int->V):V->Hp->VK->Prop:=fun x H Q=>∃ i,x=.int i/\Q (g i) H
section
variable {X:Cx} {a b c:Expr} {ta tb tc:TE} {pos:Pos}
variable {f:Value->Value->Sem Value}
theorem LH (ha:PE X a ta) (hb:PE X b tb) {pins:List (Addr × Obj)} {s:Shared} {σ:St} {H:Hp} {R:V->V->Hp->Prop} (I:Inv X pins σ H s)
  (h:ta σ H fun x H1=>tb σ H1 fun y H2=>R x y H2) {Q:Value->Shared->Prop}
  (hf:∀ v u s2 x y H2,Inv X pins σ H2 s2->RelV x v->RelV y u->R x y H2->wpAny (model X.prog X.w) X.A (f v u) Q X.xe s2) :
  wpAny (model X.prog X.w) X.A (eval a X.env) (fun v s₁=>wpAny (model X.prog X.w) X.A (eval b X.env) (fun u s₂=>wpAny (model X.prog X.w) X.A (f v u) Q X.xe s₂) X.xe s₁) X.xe s:=by
 refine bD (ha pins s σ H _ I h) fun v s1 ⟨x,H1,I1,r1,q1⟩=>?_;refine bD (hb pins s1 σ H1 _ I1 q1) fun u s2 ⟨y,H2,I2,r2,q2⟩=>?_;exact hf v u s2 x y H2 I2 r1 r2 q2
theorem TC {op:Operator} {r:R2} (ho:dI X (binaryOp op) r) (ha:PE X a ta) (hb:PE X b tb):PE X (.BinOp a op b pos) (E4 r ta tb):=by
 intro pins s σ H Q I h;exact wpAny_BinOp (LH ha hb I h fun v u s2 x y H2 I2 rx ry q=>ho pins s2 σ H2 x y v u Q I2 rx ry q)
theorem Ua {op:UnaryOp} {r:V->Hp->VK->Prop} (ho:SF X (unaryOp op) r) (ha:PE X a ta):PE X (.UnaryOp op a pos) (UB r ta):=by
 intro pins s σ H Q I h;exact UnaryOp_ (bD (ha pins s σ H _ I h) fun v s1 ⟨x,H1,I1,r1,q1⟩=>ho pins s1 σ H1 x v Q I1 r1 q1)
variable {g:Int->Int->Int}
theorem Od {C:Int->Int->Prop}
  (rule:∀ (i j:Int) (t u:Tok) (s:Shared) (Q:Value->Shared->Prop) (E:Value->Shared->Prop),C i j->Q (.int (g i j) s.toks) { s with toks:=s.toks + 1 }->wpAny (model X.prog X.w) X.A (f (.int i t) (.int j u)) Q E s) :
  dI X f (rI C fun i j=>.int (g i j)):=by
 intro pins s σ H x y v u Q I rx ry h;obtain ⟨i,j,rfl,rfl,hc,q⟩:=h;obtain ⟨t,rfl⟩:=rx;obtain ⟨t',rfl⟩:=ry;exact rule i j t t' s _ _ hc ⟨.int (g i j),H,I.tok _,⟨_,rfl⟩,q⟩
theorem Q6
  (rule:∀ (i j:Int) (t u:Tok) (s:Shared) (Q:Value->Shared->Prop) (E:Value->Shared->Prop),Q (.int (g i j) s.toks) { s with toks:=s.toks + 1 }->wpAny (model X.prog X.w) X.A (f (.int i t) (.int j u)) Q E s) :
  dI X f (vW fun i j=>.int (g i j)):=by
 intro pins s σ H x y v u Q I rx ry h;obtain ⟨i,j,rfl,rfl,q⟩:=h;obtain ⟨t,rfl⟩:=rx;obtain ⟨t',rfl⟩:=ry;exact rule i j t t' s _ _ ⟨.int (g i j),H,I.tok _,⟨_,rfl⟩,q⟩
theorem Je {g:Int->Int->Bool}
  (rule:∀ (i j:Int) (t u:Tok) (s:Shared) (Q:Value->Shared->Prop) (E:Value->Shared->Prop),Q (.bool (g i j)) s->wpAny (model X.prog X.w) X.A (f (.int i t) (.int j u)) Q E s) :
  dI X f (vW fun i j=>.bl (g i j)):=by
 intro pins s σ H x y v u Q I rx ry h;obtain ⟨i,j,rfl,rfl,q⟩:=h;obtain ⟨t,rfl⟩:=rx;obtain ⟨t',rfl⟩:=ry;exact rule i j t t' s _ _ ⟨.bl (g i j),H,I,rfl,q⟩
def RR (i j:Int):Prop:=0<=j/\j<=1000000/\i.natAbs < 2 ^ 64
def Mz (i j:Int):Prop:=(-(2 ^ 64) < i/\i < 2 ^ 64)\/(-(2 ^ 64) < j/\j < 2 ^ 64)
theorem Mz.ok {i j:Int} (h:Mz i j):IntMulOk i j:=by
 rcases h with ⟨h1,h2⟩ | ⟨h1,h2⟩
 ·exact .of_left (intBits_le_64 h1 h2)
 ·exact .of_right (intBits_le_64 h1 h2)
theorem Uq (k:Nat):(0:Int)<=2 ^ k:=by
 rw [two_pow_cast];exact Int.natCast_nonneg _
theorem SG:dI X (binaryOp .Add) (vW fun i j=>.int (i + j)):=Q6 fun _ _ _ _ _ _ _ q=>add_int q
theorem Q1:dI X (binaryOp .Sub) (vW fun i j=>.int (i - j)):=Q6 fun _ _ _ _ _ _ _ q=>sub_int q
theorem QV:dI X (binaryOp .Mod) (rI (fun _ j=>0 < j) fun i j=>.int (i % j)):=Od fun i j _ _ _ _ _ hc q=>by
 have h1:(0:Int) < j:=hc;exact mod_int' (by omega) (by rw [Int.fmod_eq_emod_of_nonneg i (by omega)];exact q)
theorem Rk:dI X (binaryOp .Pow) (rI RR fun i j=>.int (i ^ j.toNat)):=Od fun _ _ _ _ _ _ _ hc q=>pow_int_small hc.1 hc.2.1 hc.2.2 q
theorem Vv {f:Value->Sem Value} {g:Int->Int}
  (rule:∀ (i:Int) (t:Tok) (s:Shared) (Q:Value->Shared->Prop) (E:Value->Shared->Prop),Q (.int (g i) s.toks) { s with toks:=s.toks + 1 }->wpAny (model X.prog X.w) X.A (f (.int i t)) Q E s) :
  SF X f (rU fun i=>.int (g i)):=by
 intro pins s σ H x v Q I rx h;obtain ⟨i,rfl,q⟩:=h;obtain ⟨t,rfl⟩:=rx;exact rule i t s _ _ ⟨.int (g i),H,I.tok _,⟨_,rfl⟩,q⟩
theorem R5:SF X (unaryOp .USub) (rU fun i=>.int (-i)):=Vv fun _ _ _ _ _ q=>neg_int q
end
def Ih:V->V->Bool
 | .non,.non=>true | .non,.int _=>true | .int _,.non=>true | .non,.bl _=>true | .bl _,.non=>true | .non,.str _=>true | .str _,.non=>true
 | .int _,.int _=>true | .bl _,.bl _=>true | .str _,.str _=>true | .byt _,.byt _=>true
 | .int _,.str _=>true | .str _,.int _=>true | .bl _,.str _=>true | .str _,.bl _=>true
 | _,_=>false
def Vr:R2:=fun x y H Q=>Ih x y=true/\Q (.bl (decide (x=y))) H
def Vn:R2:=fun x y H Q=>Ih x y=true/\Q (.bl (!decide (x=y))) H
theorem F4 {i j:Int}:decide (V.int i=V.int j)=(i == j):=by
 rw [Bool.eq_iff_iff]
 simp
theorem JA {i j:Bool}:decide (V.bl i=V.bl j)=(i == j):=by
 rw [Bool.eq_iff_iff]
 simp
theorem GW {i j:Str}:decide (V.str i=V.str j)=(i == j):=by
 rw [Bool.eq_iff_iff]
 simp
theorem Gx {i j:Array UInt8}:decide (V.byt i=V.byt j)=(i.toList == j.toList):=by
 rw [Bool.eq_iff_iff];cases i;cases j
 simp
section
variable {X:Cx} {a b c:Expr} {ta tb tc:TE} {pos:Pos}
theorem bW {pins:List (Addr × Obj)} {σ:St} {H:Hp} {s:Shared} {Q:VK} {k k':Bool} (I:Inv X pins σ H s) (q:Q (.bl k) H) (e:k=k'):EP X pins σ Q (.bool k') s:=by
 subst e;exact ⟨.bl k,H,I,rfl,q⟩
theorem Uj:dI X (compareOp .Eq) Vr:=by
 intro pins s σ H x y v u Q I rx ry h;obtain ⟨hs,q⟩:=h
 cases x with
 | non =>
  cases rx
  cases y with
  | non=>cases ry;exact PySem.EqNone.eq_none_none (bW I q (by simp))
  | bl j=>cases ry;exact PySem.EqNone.eq_none_bool (bW I q (by simp))
  | int j=>obtain ⟨t',rfl⟩:=ry;exact PySem.EqNone.eq_none_int (bW I q (by simp))
  | str j=>obtain ⟨t',rfl⟩:=ry;exact PySem.EqNone.eq_none_str (bW I q (by simp))
  | _=>exact absurd (show false=true from hs) Bool.false_ne_true
 | bl i =>
  cases rx
  cases y with
  | non=>cases ry;exact PySem.EqNone.eq_bool_none (bW I q (by simp))
  | bl j=>cases ry;exact eq_bool (bW I q JA)
  | str j=>obtain ⟨t',rfl⟩:=ry;exact PySem.EqMixed.eq_bool_str (bW I q (by simp))
  | _=>exact absurd (show false=true from hs) Bool.false_ne_true
 | int i =>
  obtain ⟨t,rfl⟩:=rx
  cases y with
  | non=>cases ry;exact PySem.EqNone.eq_int_none (bW I q (by simp))
  | int j=>obtain ⟨t',rfl⟩:=ry;exact eq_int (bW I q F4)
  | str j=>obtain ⟨t',rfl⟩:=ry;exact PySem.EqMixed.eq_int_str (bW I q (by simp))
  | _=>exact absurd (show false=true from hs) Bool.false_ne_true
 | str i =>
  obtain ⟨t,rfl⟩:=rx
  cases y with
  | non=>cases ry;exact PySem.EqNone.eq_str_none (bW I q (by simp))
  | bl j=>cases ry;exact PySem.EqMixed.eq_str_bool (bW I q (by simp))
  | int j=>obtain ⟨t',rfl⟩:=ry;exact PySem.EqMixed.eq_str_int (bW I q (by simp))
  | str j=>obtain ⟨t',rfl⟩:=ry;exact eq_str (bW I q GW)
  | _=>exact absurd (show false=true from hs) Bool.false_ne_true
 | byt i =>
  obtain ⟨t,rfl⟩:=rx
  cases y with
  | byt j=>obtain ⟨t',rfl⟩:=ry;exact PySem.W.eq_bytes (bW I q Gx)
  | _=>exact absurd (show false=true from hs) Bool.false_ne_true
 | _=>cases y <;> exact absurd (show false=true from hs) Bool.false_ne_true
theorem TV:dI X (compareOp .NotEq) Vn:=by
 intro pins s σ H x y v u Q I rx ry h;obtain ⟨hs,q⟩:=h
 cases x with
 | non =>
  cases rx
  cases y with
  | non=>cases ry;exact PySem.EqNone.ne_none_none (bW I q (by simp))
  | bl j=>cases ry;exact PySem.EqNone.ne_none_bool (bW I q (by simp))
  | int j=>obtain ⟨t',rfl⟩:=ry;exact PySem.EqNone.ne_none_int (bW I q (by simp))
  | str j=>obtain ⟨t',rfl⟩:=ry;exact PySem.EqNone.ne_none_str (bW I q (by simp))
  | _=>exact absurd (show false=true from hs) Bool.false_ne_true
 | bl i =>
  cases rx
  cases y with
  | non=>cases ry;exact PySem.EqNone.ne_bool_none (bW I q (by simp))
  | bl j=>cases ry;exact ne_bool (bW I q (congrArg not JA))
  | str j=>obtain ⟨t',rfl⟩:=ry;exact PySem.EqMixed.ne_bool_str (bW I q (by simp))
  | _=>exact absurd (show false=true from hs) Bool.false_ne_true
 | int i =>
  obtain ⟨t,rfl⟩:=rx
  cases y with
  | non=>cases ry;exact PySem.EqNone.ne_int_none (bW I q (by simp))
  | int j=>obtain ⟨t',rfl⟩:=ry;exact ne_int (bW I q (congrArg not F4))
  | str j=>obtain ⟨t',rfl⟩:=ry;exact PySem.EqMixed.ne_int_str (bW I q (by simp))
  | _=>exact absurd (show false=true from hs) Bool.false_ne_true
 | str i =>
  obtain ⟨t,rfl⟩:=rx
  cases y with
  | non=>cases ry;exact PySem.EqNone.ne_str_none (bW I q (by simp))
  | bl j=>cases ry;exact PySem.EqMixed.ne_str_bool (bW I q (by simp))
  | int j=>obtain ⟨t',rfl⟩:=ry;exact PySem.EqMixed.ne_str_int (bW I q (by simp))
  | str j=>obtain ⟨t',rfl⟩:=ry;exact ne_str (bW I q (congrArg not GW))
  | _=>exact absurd (show false=true from hs) Bool.false_ne_true
 | byt i =>
  obtain ⟨t,rfl⟩:=rx
  cases y with
  | byt j=>obtain ⟨t',rfl⟩:=ry;exact PySem.W.ne_bytes (bW I q (congrArg not Gx))
  | _=>exact absurd (show false=true from hs) Bool.false_ne_true
 | _=>cases y <;> exact absurd (show false=true from hs) Bool.false_ne_true
theorem N5:dI X (compareOp .Lt) (vW fun i j=>.bl (decide (i < j))):=Je fun _ _ _ _ _ _ _ q=>lt_int q
theorem Ur:dI X (compareOp .LtE) (vW fun i j=>.bl (decide (i<=j))):=Je fun _ _ _ _ _ _ _ q=>le_int q
theorem Us:dI X (compareOp .Gt) (vW fun i j=>.bl (decide (j < i))):=Je fun _ _ _ _ _ _ _ q=>gt_int q
theorem Ud:dI X (compareOp .GtE) (vW fun i j=>.bl (decide (j<=i))):=Je fun _ _ _ _ _ _ _ q=>ge_int q
theorem SD:dI X (compareOp .Is) (fun x y H Q=>y=.non/\Q (.bl (decide (x=.non))) H):=by
 intro pins s σ H x y v u Q I rx ry h;obtain ⟨rfl,q⟩:=h;cases ry;refine is_none_gen (bW I q ?_)
 cases x <;> first
  | (cases rx;rfl)
  | (obtain ⟨t,rfl⟩:=rx;rfl)
theorem OU:dI X (compareOp .IsNot) (fun x y H Q=>y=.non/\Q (.bl (!decide (x=.non))) H):=by
 intro pins s σ H x y v u Q I rx ry h;obtain ⟨rfl,q⟩:=h;cases ry;refine isnot_none_gen (bW I q ?_)
 cases x <;> first
  | (cases rx;rfl)
  | (obtain ⟨t,rfl⟩:=rx;rfl)
variable {r r':R2}
theorem dI.or {f:Value->Value->Sem Value} (h:dI X f r) (h':dI X f r'):dI X f (fun x y H Q=>r x y H Q\/r' x y H Q):=by
 intro pins s σ H x y v u Q I rx ry q
 rcases q with q | q
 ·exact h pins s σ H x y v u Q I rx ry q
 ·exact h' pins s σ H x y v u Q I rx ry q
variable {op:CmpOp}
theorem Ko (b:Expr) (h:op≠.In:=by decide) (h2:op≠.NotIn:=by decide):behindInMarks op b=false:=by
 have e1:(op == CmpOp.In)=false:=by cases op <;> first | rfl | exact absurd rfl h
 have e2:(op == CmpOp.NotIn)=false:=by cases op <;> first | rfl | exact absurd rfl h2
 cases b <;> simp [behindInMarks,e1,e2]
theorem Pk (ho:dI X (compareOp op) r) (ha:PE X a ta) (hb:PE X b tb) (hm:behindInMarks op b=false):PE X (.Compare a [op] [b] pos) (E4 r ta tb):=by
 intro pins s σ H Q I h;exact wpAny_Compare1 (LH ha hb I h fun v u s2 x y H2 I2 rx ry q=>ho pins s2 σ H2 x y v u Q I2 rx ry q) hm
def OM (t:TE):TT:=fun σ H Q=>t σ H fun x H'=>∃ k,x=.bl k/\Q k H'
theorem Qu (ho:dI X (compareOp op) r) (ha:PE X a ta) (hb:PE X b tb) (hm:behindInMarks op b=false):PT X (.Compare a [op] [b] pos) (OM (E4 r ta tb)):=by
 intro pins s σ H Q I h
 refine wpAny_isTrue_Compare1 (bD (ha pins s σ H _ I h) fun v s1 ⟨x,H1,I1,r1,q1⟩=>bD (hb pins s1 σ H1 _ I1 q1) fun u s2 ⟨y,H2,I2,r2,q2⟩ =>
  bD (ho pins s2 σ H2 x y v u _ I2 r1 r2 q2) fun c s3 ⟨z,H3,I3,r3,k,e,q3⟩=>?_) hm
 subst e;cases r3;exact wpAny_truthy_bool ⟨H3,I3,q3⟩
def J0 (r r':R2) (ta tb tc:TE):TE:=fun σ H Q=>ta σ H fun x H1=>tb σ H1 fun y H2=>r x y H2 fun z H3=>∃ k,z=.bl k /\
 (if k=true then tc σ H3 fun w' H4=>r' y w' H4 Q else Q (.bl false) H3)
theorem Nx {op':CmpOp} (ho:dI X (compareOp op) r) (ho':dI X (compareOp op') r') (ha:PE X a ta) (hb:PE X b tb) (hc:PE X c tc)
  (hm:lastMarks [op,op'] [b,c]=false:=by with_unfolding_all rfl):PE X (.Compare a [op,op'] [b,c] pos) (J0 r r' ta tb tc):=by
 intro pins s σ H Q I h
 refine Compare_chain (bD (ha pins s σ H _ I h) fun v s1 ⟨x,H1,I1,r1,q1⟩=>chain_link (bD (hb pins s1 σ H1 _ I1 q1) fun u s2 ⟨y,H2,I2,r2,q2⟩ =>
  bD (ho pins s2 σ H2 x y v u _ I2 r1 r2 q2) fun d s3 ⟨z,H3,I3,r3,k,e,q3⟩=>?_)) hm
 subst e;cases r3;refine wpAny_truthy_bool ?_
 cases k with
 | false=>exact ite_ff ⟨.bl false,H3,I3,rfl,q3⟩
 | true=>exact ite_tt (chain_last (bD (hc pins s3 σ H3 _ I3 q3) fun w' s4 ⟨z',H4,I4,r4,q4⟩=>ho' pins s4 σ H4 y z' u w' Q I4 r2 r4 q4))
def MV (K:PySem.W.Frag) (x:V) (H:Hp) (k:Bool):Prop :=
 match x with
 | .non=>k=false
 | .bl b=>k=b
 | .int i=>k=(i != 0)
 | .str y=>y.length<=sizeLine/\k=((y.length:Int) != 0)
 | .byt y=>y.size<=sizeLine/\k=((y.size:Int) != 0)
 | .ref p=>(∃ xs,eR K H p xs/\k=!xs.isEmpty)\/(∃ xs,fR K H p xs/\k=!xs.isEmpty)\/∃ kvs,H p=some (.dK kvs)/\k=!kvs.isEmpty
 | _=>False
theorem Jf {κ:Type} {kvs:List (κ × V)} {vs:List (κ × Value)} (r:KV kvs vs):(!vs.isEmpty)=!kvs.isEmpty:=by
 cases r <;> rfl
theorem A8 {xs:List V} {its:List Value} (r:Vals xs its):(!its.toArray.isEmpty)=!xs.isEmpty:=by
 cases r <;> simp
theorem qU:(sizeLine:Nat) < 2 ^ 63:=by rw [sizeLine_eq];decide
theorem Tc:UZ X (fun x H Q=>∃ k,MV X.K x H k/\Q k H):=by
 intro pins s σ H x v Q I rx h;obtain ⟨k,e,q⟩:=h;have hl:=qU;have hs:sizeLine=16777216:=sizeLine_eq
 cases x with
 | non =>
  cases rx;have e':k=false:=e;subst e';exact truthy_none ⟨H,I,q⟩
 | bl b =>
  cases rx;have e':k=b:=e;subst e';exact wpAny_truthy_bool ⟨H,I,q⟩
 | int i =>
  obtain ⟨t,rfl⟩:=rx;have e':k=(i != 0):=e;subst e';exact PySem.P.truthy_int ⟨H,I,q⟩
 | str y =>
  obtain ⟨t,rfl⟩:=rx;obtain ⟨hy,e'⟩:y.length<=sizeLine/\k=((y.length:Int) != 0):=e;subst e';exact PySem.P.truthy_str (by omega) ⟨H,I.tok _,q⟩
 | byt y =>
  obtain ⟨t,rfl⟩:=rx;obtain ⟨hy,e'⟩:y.size<=sizeLine/\k=((y.size:Int) != 0):=e;subst e';exact PySem.W.truthy_bytes (by omega) ⟨H,I.tok _,q⟩
 | ref p =>
  cases rx;have e':(∃ xs,eR X.K H p xs/\k=!xs.isEmpty)\/(∃ xs,fR X.K H p xs/\k=!xs.isEmpty)\/∃ kvs,H p=some (.dK kvs)/\k=!kvs.isEmpty:=e
  rcases e' with ⟨xs,hx,e'⟩ | ⟨xs,hx,e'⟩ | ⟨kvs,hx,e'⟩
  ·subst e'
   obtain ⟨its,r,pl,hz⟩:=I.list hx;have hlen:=r.length;exact wpAny_truthy_list pl.isList (by simp only [List.size_toArray];omega) ⟨H,I.tok _,by rw [A8 r];exact q⟩
  ·subst e'
   obtain ⟨its,r,pl,hz⟩:=I.tuple hx;have hlen:=r.length;exact truthy_tuple pl (by simp only [List.size_toArray];omega) ⟨H,I.tok _,by rw [A8 r];exact q⟩
  ·subst e'
   obtain ⟨hz,hS,vs,r,m⟩:kvs.length<=sizeLine/\(p == sysModules)=false/\∃ vs,KV kvs vs/\s.heap.DictOf (gF X.prog X.w) p vs:=I.hok p _ hx;have hlen:kvs.length=vs.length:=Paired.length r;exact wpAny_truthy_dict hS m (by omega) ⟨H,I.tok _,by rw [Jf r];exact q⟩
 | _=>exact (show False from e).elim
theorem Ni (ha:PE X a ta) (he:∀ whole,isTrue a X.env whole=(do let v <- whole;standAt a.pos;holding [v] (truthy v))) :
  PT X a (fun σ H Q=>ta σ H fun x H'=>∃ k,MV X.K x H' k/\Q k H'):=by
 intro pins s σ H Q I h;exact isTrue_plain (bD (ha pins s σ H _ I h) fun v s1 ⟨x,H1,I1,r1,q1⟩=>Tc pins s1 σ H1 x v Q I1 r1 q1) (he _)
theorem Iy:dI X (binaryOp .Add) (fun x y H Q=>∃ i j,x=.str i/\y=.str j/\i.length + j.length<=sizeLine/\Q (.str (i++j)) H):=by
 intro pins s σ H x y v u Q I rx ry h;obtain ⟨i,j,rfl,rfl,hz,q⟩:=h;obtain ⟨t,rfl⟩:=rx;obtain ⟨t',rfl⟩:=ry;exact add_str (fun t' tk=>⟨.str (i++j),H,I.tok _,⟨_,rfl⟩,q⟩) hz
variable {x:V} {us:List Value}
theorem vals1 (r:Vals [x] us):∃ u,us=[u]/\RelV x u:=by
 cases r with
 | cons r1 r2=>cases r2;exact ⟨_,rfl,r1⟩
theorem vals2 {y:V} (r:Vals [x,y] us):∃ u w',us=[u,w']/\RelV x u/\RelV y w':=by
 cases r with
 | cons r1 r2 =>
  cases r2 with
  | cons r3 r4=>cases r4;exact ⟨_,_,rfl,r1,r3⟩
theorem KW (hc:X.calm=true):kT X (.builtin "max") (fun xs H Q=>∃ i j,xs=[.int i,.int j]/\Q (.int (if j > i then j else i)) H):=by
 intro pins s σ H xs us Q I r h;obtain ⟨i,j,rfl,q⟩:=h;obtain ⟨u,w',rfl,⟨t,rfl⟩,⟨t',rfl⟩⟩:=vals2 r;refine max_two_ints (I.ok.hd hc) fun h' tk k=>⟨_,H,I.kept k,?_,q⟩
 by_cases hj:j > i
 ·rw [if_pos hj,if_pos hj];exact ⟨_,rfl⟩
 ·rw [if_neg hj,if_neg hj];exact ⟨_,rfl⟩
theorem Kr (hc:X.calm=true):kT X (.builtin "min") (fun xs H Q=>∃ i j,xs=[.int i,.int j]/\Q (.int (if j < i then j else i)) H):=by
 intro pins s σ H xs us Q I r h;obtain ⟨i,j,rfl,q⟩:=h;obtain ⟨u,w',rfl,⟨t,rfl⟩,⟨t',rfl⟩⟩:=vals2 r;refine min_two_ints (I.ok.hd hc) fun h' tk k=>⟨_,H,I.kept k,?_,q⟩
 by_cases hj:j < i
 ·rw [if_pos hj,if_pos hj];exact ⟨_,rfl⟩
 ·rw [if_neg hj,if_neg hj];exact ⟨_,rfl⟩
def Su (K:PySem.W.Frag) (x:V) (H:Hp) (n:Nat):Prop :=
 match x with
 | .str y=>y.length<=sizeLine/\n=y.length
 | .byt y=>y.size<=sizeLine/\n=y.size
 | .ref p=>(∃ xs,eR K H p xs/\n=xs.length)\/∃ xs,fR K H p xs/\n=xs.length
 | _=>False
theorem NX:kT X (.builtin "len") (fun xs H Q=>∃ x n,xs=[x]/\Su X.K x H n/\Q (.int n) H):=by
 intro pins s σ H xs us Q I r h;obtain ⟨x,n,rfl,e,q⟩:=h;obtain ⟨u,rfl,rx⟩:=vals1 r;have hl:=qU;have hs:sizeLine=16777216:=sizeLine_eq
 cases x with
 | str y =>
  obtain ⟨t,rfl⟩:=rx;obtain ⟨hy,e'⟩:y.length<=sizeLine/\n=y.length:=e;subst e';exact len_str (by omega) ⟨.int _,H,I.tok _,⟨_,rfl⟩,q⟩
 | byt y =>
  obtain ⟨t,rfl⟩:=rx;obtain ⟨hy,e'⟩:y.size<=sizeLine/\n=y.size:=e;subst e';exact PySem.W.len_bytes (by omega) ⟨.int _,H,I.tok _,⟨_,rfl⟩,q⟩
 | ref p =>
  cases rx;have e':(∃ xs,eR X.K H p xs/\n=xs.length)\/∃ xs,fR X.K H p xs/\n=xs.length:=e
  rcases e' with ⟨xs,hx,e'⟩ | ⟨xs,hx,e'⟩
  ·subst e'
   obtain ⟨its,r',pl,hz⟩:=I.list hx;have hlen:=r'.length;exact Calls.call_len_list pl.isList (by simp only [List.size_toArray];omega) ⟨.int xs.length,H,I.tok _,⟨_,by simp only [List.size_toArray];rw [hlen]⟩,q⟩
  ·subst e'
   obtain ⟨its,r',pl,hz⟩:=I.tuple hx;have hlen:=r'.length;exact len_tuple pl (by simp only [List.size_toArray];omega) ⟨.int xs.length,H,I.tok _,⟨_,by simp only [List.size_toArray];rw [hlen]⟩,q⟩
 | _=>exact (show False from e).elim
end
structure zW (h:Heap) (x dx C:Addr) (mA:Str->Option Value):Prop where
 obj:h.get? x=some (PySem.W.instObj C dx)
 ns:h.Ns1 dx mA
 ne:dx≠x
variable {dx:Addr} {mA:Str->Option Value}
theorem JP (n:h.Ns1 dx mA):∃ od,h.get? dx=some od/\∀ name,PySem.W.lookIn name od=some (mA name):=by
 obtain ⟨o,es,ep,ho,hd,hk,_,hm⟩:=n;refine ⟨o,ho,fun name=>?_⟩;have e:=hm name;unfold nsFind findBy at e;rw [<- Array.find?_toList] at e;unfold PySem.W.lookIn;rw [hd];dsimp only;split
 ·rename_i y q
  rw [q] at e;exact congrArg some e
 ·rename_i q
  rw [q] at e
  have a:es.toList.any (·.refKey)=false:=by
   rw [List.any_eq_false];intro y hy;obtain ⟨z,t,hkey⟩:=hk y (Array.mem_toList_iff.mp hy)
   simp [DictEntry.refKey,hkey]
  have a':¬ es.toList.any (·.refKey)=true:=by rw [a];exact Bool.false_ne_true
  rw [if_neg a'];exact congrArg some e
variable {C:Addr}
theorem zW.look {x:Addr} (I:zW h x dx C mA):∃ od,PySem.W.InstAt h x (PySem.W.instObj C dx) C (some od)/\∀ name,PySem.W.lookIn name od=some (mA name) :=
 let ⟨od,ho,hl⟩:=JP I.ns
 ⟨od,⟨I.obj,rfl,rfl,ho⟩,hl⟩
section
variable {prog:Program} {w:World} {A:Around} {E:Value->Shared->Prop} {s:Shared} {K:PySem.W.Frag} {x dx C f:Addr} {mA:Str->Option Value} {name:Str} {v:Value}
theorem get_map {expr:Bool} {Q:Value->Shared->Prop} (X:K.In s.heap) (I:zW s.heap x dx C mA) (hg:PySem.W.plainGet K C name=true) (hh:PySem.W.hasDictIn K C=true)
  (ha:PySem.W.findIn K (.ref C) name=some none) (hv:mA name=some v) (hv':PySem.W.handedIn v=true) (h:Q v { s with toks:=s.toks + 1 }) :
  wpAny (model prog w) A (getAttr (.ref x) name expr) Q E s:=by
 obtain ⟨od,J,hl⟩:=I.look;exact PySem.W.get_value X J (PySem.W.plainGet_of hg).1 (PySem.W.findObj_own hh ha rfl (by rw [hl,hv])) hv' h
theorem Mh {pl:Sem Bool} {Q:Value × List Value->Shared->Prop} (X:K.In s.heap) (I:zW s.heap x dx C mA) (hg:PySem.W.plainGet K C name=true)
  (hf:PySem.W.findIn K (.ref C) name=some (some (.ref f))) (ht:PySem.W.isFn K (.ref f)=true) (hv:mA name=none) (h:Q (.ref f,[.ref x]) s) :
  wpAny (model prog w) A (getMethod (.ref x) name pl) Q E s:=by
 obtain ⟨od,J,hl⟩:=I.look;exact PySem.W.method_fn X J (PySem.W.plainGet_of hg).1 (PySem.W.plainGet_of hg).2 hf (beq_iff_eq.mp ht) (by show (PySem.W.lookIn name od).map (·.isSome)=some false;rw [hl,hv];rfl) h
theorem O4 {ns:List Str} {Q:Unit->Shared->Prop} (X:K.In s.heap) (I:zW s.heap x dx C mA)
  (hs:PySem.W.findIn K (.ref C) "__setattr__"=some (some (.builtin "object.__setattr__"))) (hp:PySem.W.plainOver K C=true) (ht:PySem.W.takerIn K C name=some none) (hh:PySem.W.hasDictIn K C=true)
  (hw:PySem.Within mA ns) (hsz:ns.length<=sizeLine)
  (h:∀ h',zW h' x dx C (fun y=>if y=name then some v else mA y)->Heap.SameBut dx s.heap h'->Q () { s with heap:=h',toks:=s.toks + 2 }) :
  wpAny (model prog w) A (setAttr (.ref x) name v) Q E s:=by
 obtain ⟨od,J,hl⟩:=I.look;refine PySem.W.set_plain X J hs (PySem.W.osa_open (s:={ s with toks:=s.toks + 1 }) (r:=none) X J hp ht fun b=>?_);obtain ⟨cd,hc,hd'⟩:=PySem.W.any_some hh;have hx:s.heap.get? x=some ⟨.ref C,some dx,.plain,#[]⟩:=I.obj;refine wpAny_bind (wpAny_pure (wpAny_bind (wpAny_bind (wpAny_loadPart hx (wpAny_bind (PySem.W.Looks.here (s:={ s with toks:=s.toks + 1 }) (PySem.W.looks_clsIn X hc) ?_))))));rw [hd'];refine wpAny_pure (a:=some dx) (wpAny_bind (wpAny_pure (wpAny_bind ?_)));refine wpAny_nsSet1 (s:={ s with toks:=s.toks + 1 }) I.ns fun h' hn2 hs2=>?_;obtain ⟨oD,esD,epD,hoD,hdD,hcD⟩:=hn2.count (PySem.Within.cons name v hw);refine wpAny_bind (wpAny_lookBehind hoD (by rw [hdD];exact pastItsLine_dict (Nat.le_trans hcD (by rw [List.length_cons];omega))) ?_);exact wpAny_pure (h _ ⟨(hs2.2 _ (Ne.symm I.ne)).trans I.obj,hn2,I.ne⟩ hs2)
theorem Mq {R:Result->Shared->Prop} {vs:List Value} {kw:List (Str × Value)} (X:K.In s.heap) (hm:PySem.W.makesIn K C=true)
  (hi:PySem.W.findIn K (.ref C) "__init__"=some (some (.ref f))) (hf:PySem.W.typeIn K (.ref f)=some (.type "function"))
  (h:codeAny (model prog w) (A.under (.builtin "type.__call__" ⟨.ref C :: vs,kw⟩)) (.call (.ref f) ⟨.ref (s.heap.objs.size + 1) :: vs,kw⟩) (PySem.W.InitBack (s.heap.objs.size + 1) R)
   { s with heap:=(s.heap.push PySem.W.emptyDict).push (PySem.W.instObj C s.heap.objs.size) }) :
  codeAny (model prog w) A (.call (.ref C) ⟨vs,kw⟩) R s:=by
 obtain ⟨hh,g,d,t,os⟩:=s;exact PySem.W.make_core (PySem.W.makes_of X hm) (PySem.W.looks_findIn X hi) (fun self=>PySem.W.bind_fn X self hf) (.inl rfl) h
end
def putF (f:Str) (v:V):List (Str × V)->List (Str × V)
 | []=>[(f,v)]
 | (g,x) :: r=>if g=f then (g,v) :: r else (g,x) :: putF f v r
theorem zP (f g:Str) (v:V):∀ fs:List (Str × V),(putF f v fs).lookup g=if g=f then some v else fs.lookup g
 | []=>by
  show List.lookup g [(f,v)]=_
  by_cases h:g=f
  ·have hb:(g == f)=true:=beq_iff_eq.mpr h
   simp only [List.lookup,hb,if_pos h]
  ·have hb:(g == f)=false:=beq_eq_false_iff_ne.mpr h
   simp only [List.lookup,hb,if_neg h]
 | (k,x) :: r=>by
  have ih:=zP f g v r;rw [show putF f v ((k,x) :: r)=(if k=f then (k,v) :: r else (k,x) :: putF f v r) from rfl]
  by_cases hk:k=f
  ·rw [if_pos hk]
   by_cases h:g=k
   ·have hb:(g == k)=true:=beq_iff_eq.mpr h
    simp only [List.lookup,hb,if_pos (h.trans hk)]
   ·have hb:(g == k)=false:=beq_eq_false_iff_ne.mpr h
    simp only [List.lookup,hb,if_neg (fun e:g=f=>h (e.trans hk.symm))]
  ·rw [if_neg hk]
   by_cases h:g=k
   ·have hb:(g == k)=true:=beq_iff_eq.mpr h
    simp only [List.lookup,hb,if_neg (fun e:g=f=>hk (h.symm.trans e))]
   ·have hb:(g == k)=false:=beq_eq_false_iff_ne.mpr h
    simp only [List.lookup,hb];exact ih
theorem wJ (f:Str) (v:V):∀ fs:List (Str × V),f∈(putF f v fs).map (·.1)/\∀ g,g∈fs.map (·.1)->g∈(putF f v fs).map (·.1)
 | []=>⟨by simp [putF],fun g h=>by simp at h⟩
 | (k,x) :: r=>by
  obtain ⟨i1,i2⟩:=wJ f v r;rw [show putF f v ((k,x) :: r)=(if k=f then (k,v) :: r else (k,x) :: putF f v r) from rfl]
  by_cases hk:k=f
  ·rw [if_pos hk]
   subst hk;exact ⟨by simp,fun g h=>by simpa using h⟩
  ·rw [if_neg hk]
   refine ⟨?_,fun g h=>?_⟩
   ·rw [List.map_cons]
    exact List.mem_cons_of_mem _ i1
   ·rw [List.map_cons] at h ⊢
    rcases List.mem_cons.mp h with e | e
    ·exact List.mem_cons.mpr (.inl e)
    ·exact List.mem_cons_of_mem _ (i2 g e)
theorem zM (f:Str) (v:V):∀ fs:List (Str × V),(putF f v fs).length<=fs.length + 1
 | []=>by simp [putF]
 | (k,x) :: r=>by
  have ih:=zM f v r;rw [show putF f v ((k,x) :: r)=(if k=f then (k,v) :: r else (k,x) :: putF f v r) from rfl]
  by_cases hk:k=f
  ·rw [if_pos hk,List.length_cons,List.length_cons];omega
  ·rw [if_neg hk,List.length_cons,List.length_cons];omega
variable {o:Option Value} {v:V}
theorem j8.some_of (r:j8 (some v) o):∃ u,o=some u/\RelV v u:=by
 cases o with
 | none=>exact (show False from r).elim
 | some u=>exact ⟨u,rfl,r⟩
theorem j8.none_of (r:j8 none o):o=none:=by
 cases o with
 | none=>rfl
 | some u=>exact (show False from r).elim
theorem JX {u:Value} (r:RelV v u):PySem.W.handedIn u=true:=by
 cases v with
 | non=>cases (show u=Value.none from r);rfl
 | bl b=>cases (show u=Value.bool b from r);rfl
 | int i=>obtain ⟨t,e⟩:=(show ∃ t,u=Value.int i t from r);cases e;rfl
 | str x=>obtain ⟨t,e⟩:=(show ∃ t,u=Value.str x t from r);cases e;rfl
 | byt b=>obtain ⟨t,e⟩:=(show ∃ t,u=Value.bytes b t from r);cases e;rfl
 | flt b=>obtain ⟨t,e⟩:=(show ∃ t,u=Value.float b t from r);cases e;rfl
 | ref a=>cases (show u=Value.ref a from r);rfl
 | ty n=>cases (show u=Value.type n from r);rfl
section
variable {P:Program} {w:World} {H H':Hp} {h h':Heap} {a C dx:Addr} {fs fs':List (Str × V)}
theorem Bx (hok:fD P w H h) (e:H a=some (.ins C dx fs)):∃ mA,zW h a dx C mA/\(∀ f,j8 (fs.lookup f) (mA f))/\PySem.Within mA (fs.map (·.1))/\fs.length<=1000/\H dx=some (.own a):=by
 obtain ⟨d,z,ne,ob,mA,n,r,q⟩:=(show cZ P w H h a (.ins C dx fs) from hok a _ e);exact ⟨mA,⟨ob,n,ne⟩,r,q,z,d⟩
end
structure fT (K:PySem.W.Frag) (C:Addr):Prop where
 pg:PySem.W.plainGet K C Str.empty=true
 hd:PySem.W.hasDictIn K C=true
 po:PySem.W.plainOver K C=true
 sa:PySem.W.findIn K (.ref C) "__setattr__"=some (some (.builtin "object.__setattr__"))
theorem fT.get (c:fT K C) (f:Str):PySem.W.plainGet K C f=true:=c.pg
def bL (K:PySem.W.Frag) (C:Addr) (f:Str):Prop:=PySem.W.findIn K (.ref C) f=some none
theorem bL.taker {f:Str} (n:bL K C f):PySem.W.takerIn K C f=some none:=by
 unfold PySem.W.takerIn;rw [show PySem.W.findIn K (.ref C) f=some none from n];rfl
structure Meth (K:PySem.W.Frag) (C:Addr) (m:Str) (f:Addr):Prop where
 at_:PySem.W.findIn K (.ref C) m=some (some (.ref f))
 fn:PySem.W.isFn K (.ref f)=true
 kp:PySem.W.keepIn K (.ref f)=true
section
variable {X:Cx} {pins:List (Addr × Obj)} {σ:St} {H:Hp} {s:Shared} {a C dx:Addr} {fs:List (Str × V)} {f:Str} {v:V} {A:Around} {E:Value->Shared->Prop}
variable {Q:Value->Shared->Prop}
theorem I0 {b:Bool} (I:Inv X pins σ H s) (e:H a=some (.ins C dx fs)) (c:fT X.K C) (n:bL X.K C f) (l:fs.lookup f=some v)
  (h:∀ u s',Inv X pins σ H s'->RelV v u->Q u s'):wpAny (model X.prog X.w) A (getAttr (.ref a) f b) Q E s:=by
 obtain ⟨mA,O,r,_,_,_⟩:=Bx I.hok e;obtain ⟨u,hu,ru⟩:=j8.some_of (v:=v) (o:=mA f) (by rw [<- l];exact r f);exact get_map I.kIn O (c.get f) c.hd n hu (JX ru) (h u _ (I.tok _) ru)
theorem AE {m:Str} {g:Addr} {pl:Sem Bool} {Q:Value × List Value->Shared->Prop} (I:Inv X pins σ H s) (e:H a=some (.ins C dx fs)) (c:fT X.K C) (k:Meth X.K C m g) (l:fs.lookup m=none)
  (h:Q (.ref g,[.ref a]) s):wpAny (model X.prog X.w) A (getMethod (.ref a) m pl) Q E s:=by
 obtain ⟨mA,O,r,_,_,_⟩:=Bx I.hok e;have hn:mA m=none:=j8.none_of (by rw [<- l];exact r m);exact Mh I.kIn O (c.get m) k.at_ k.fn hn h
theorem HN {y:V} {u:Value} {Q:Unit->Shared->Prop} (I:Inv X pins σ H s) (e:H a=some (.ins C dx fs)) (c:fT X.K C) (n:bL X.K C f) (hl:fs.length < 1000) (ry:RelV y u)
  (h:∀ s',Inv X pins σ (upd H a (.ins C dx (putF f y fs))) s'->Q () s'):wpAny (model X.prog X.w) A (setAttr (.ref a) f u) Q E s:=by
 obtain ⟨mA,O,r,wi,_,ho⟩:=Bx I.hok e;have hz:(fs.map (·.1)).length<=sizeLine:=by rw [List.length_map,sizeLine_eq];omega
 refine O4 I.kIn O c.sa c.po n.taker c.hd wi hz fun h' O' sb=>h _ ?_
 have hd:∃ o,h'.get? dx=some o:=let ⟨o,_,_,e',_⟩:=O'.ns;⟨o,e'⟩
 refine I.write (x:=a) (e:=dx) (by rw [e];exact True.intro) (.inr ho) (fun b q hb z=>(sb.2 b hb).trans z) hd ?_;refine ⟨by rw [bK O.ne];exact ho,?_,O.ne,O'.obj,_,O'.ns,fun g=>?_,fun g hg=>?_⟩
 ·have:=zM f y fs;omega
 ·show j8 ((putF f y fs).lookup g) (if g=f then some u else mA g)
  rw [zP]
  by_cases q:g=f
  ·rw [if_pos q,if_pos q];exact ry
  ·rw [if_neg q,if_neg q];exact r g
 ·by_cases q:g=f
  ·rw [q];exact (wJ f y fs).1
  ·refine (wJ f y fs).2 g (wi g fun z=>hg ?_)
   show (if g=f then some u else mA g)=none;rw [if_neg q];exact z
theorem Inv.made (I:Inv X pins σ H s):Inv X pins σ (upd (upd H s.heap.objs.size (.own (s.heap.objs.size + 1))) (s.heap.objs.size + 1) (.ins C s.heap.objs.size []))
  { s with heap:=(s.heap.push PySem.W.emptyDict).push (PySem.W.instObj C s.heap.objs.size) }:=by
 have e1:(s.heap.push PySem.W.emptyDict).get? s.heap.objs.size=some PySem.W.emptyDict:=Heap.get?_push_size s.heap rfl
 have e2:((s.heap.push PySem.W.emptyDict).push (PySem.W.instObj C s.heap.objs.size)).get? (s.heap.objs.size + 1)=some (PySem.W.instObj C s.heap.objs.size):=by
  have:=Heap.get?_push_size (s.heap.push PySem.W.emptyDict) (o:=PySem.W.instObj C s.heap.objs.size) rfl
  rwa [Heap.size_push] at this
 have e3:(s.heap.push PySem.W.emptyDict).Ns s.heap.objs.size (fun _=>none):=⟨PySem.W.emptyDict,#[],_,e1,rfl,(fun e he=>absurd he (by simp)),fun _=>rfl⟩;have I1:=I.laid (a:=s.heap.objs.size) (o:=.own (s.heap.objs.size + 1)) (h':=s.heap.push PySem.W.emptyDict) (t':=s.toks) (fun b u q=>Heap.get?_push_of_some _ q) (Nat.le_refl _) ⟨_,e1⟩;refine I1.laid (a:=s.heap.objs.size + 1) (o:=.ins C s.heap.objs.size []) (t':=s.toks) (fun b u q=>Heap.get?_push_of_some _ q) (Nat.le_of_eq (Heap.size_push _ _)) ?_;have ne:s.heap.objs.size≠s.heap.objs.size + 1:=Nat.ne_of_lt (Nat.lt_succ_self _);refine ⟨by rw [bK ne,bY],Nat.zero_le _,ne,e2,fun _=>none,(Heap.Ns1.of_empty e3).at fun o q=>Heap.get?_push_of_some _ q,fun _=>True.intro,fun y hy=>absurd rfl hy⟩
theorem Pm {prog:Program} {w:World} {env:Env} {e:Expr} {f:Str} {pos:Pos} {s:Shared} (hb:attributeBase e f env (eval e env)=eval e env)
  (h:wpAny (model prog w) A (eval e env) (fun o s₁=>wpAny (model prog w) A (getAttr o f true) Q E s₁) E s):wpAny (model prog w) A (eval (.Attribute e f pos) env) Q E s :=
 Attribute_any_ h (by rw [arm_eval_Attribute,hb])
end
def Sm (K:PySem.W.Frag) (ta:TE) (f:Str):TE:=fun σ H Q=>ta σ H fun x H1=>∃ a C dx fs v,x=.ref a/\H1 a=some (.ins C dx fs)/\fT K C/\bL K C f/\fs.lookup f=some v/\Q v H1
def Tq (K:PySem.W.Frag) (ta tv:TE) (f:Str):TS:=fun D σ H=>tv σ H fun y H1=>ta σ H1 fun x H2=>∃ a C dx fs,x=.ref a/\H2 a=some (.ins C dx fs)/\fT K C/\bL K C f/\fs.length < 1000 /\
 D.nx σ (upd H2 a (.ins C dx (putF f y fs)))
section
variable {X:Cx} {o e value:Expr} {f:Str} {pos pos' tpos:Pos} {ta tv:TE}
theorem Rz (he:PE X e ta) (hb:attributeBase e f X.env (eval e X.env)=eval e X.env):PE X (.Attribute e f pos) (Sm X.K ta f):=by
 intro pins s σ H Q I h;refine Pm hb (bD (he pins s σ H _ I h) fun u s1 ⟨x,H1,I1,rx,a,C,dx,fs,v,ex,ea,c,n,l,q⟩=>?_);subst ex;obtain rfl:u=Value.ref a:=rx;exact I0 I1 ea c n l fun u' s2 I2 ru=>⟨v,H1,I2,ru,q⟩
theorem QX (ha:PE X o ta) (hv:PE X value tv) (hs:swapsWith value (some (.Attribute o f pos')) pos.line X.env=pure false):PS X (.Assign [.Attribute o f pos'] value pos) (Tq X.K ta tv f):=by
 intro pins s σ H D I h;refine plainObj_wpAny_Assign_Attribute (bD (hv pins s σ H _ I h) fun u s1 ⟨y,H1,I1,ry,q⟩=>bD (ha pins s1 σ H1 _ I1 q) fun ov s2 ⟨x,H2,I2,rx,a,C,dx,fs,ex,ea,c,n,l,q2⟩=>?_) hs;subst ex;obtain rfl:ov=Value.ref a:=rx;exact HN I2 ea c n l ry fun s3 I3=>⟨σ,_,I3,q2⟩
theorem Tz {pl:Sem Bool} {m:Str} {apos:Pos} {args:List Expr} {pins:List (Addr × Obj)} {s:Shared} {σ:St} {H:Hp} {Q:Value->Shared->Prop} {te:TE} (he:PE X e te) (I:Inv X pins σ H s)
  (h:te σ H fun x H1=>∃ a C dx fs g,x=.ref a/\H1 a=some (.ins C dx fs)/\fT X.K C/\Meth X.K C m g/\fs.lookup m=none /\
   ∀ s1,Inv X pins σ H1 s1->wpAny (model X.prog X.w) X.A (callWith pos (.ref g) [.ref a] (backTo pos (starEach args X.env)) (backToKw pos (keywordEach [] X.env))) Q X.xe s1)
  (ht:eval (.Call (.Attribute e m apos) args [] pos) X.env=(do
   let ov <- eval e X.env
   standAt apos.atName
   let (f,first) <- holding [ov] (getMethod ov m pl)
   callWith pos f first (backTo pos (starEach args X.env)) (backToKw pos (keywordEach [] X.env)))) :
  wpAny (model X.prog X.w) X.A (eval (.Call (.Attribute e m apos) args [] pos) X.env) Q X.xe s:=by
 refine PySem.W.methodCall_KW (pl:=pl) (bD (he pins s σ H _ I h) fun u s1 ⟨x,H1,I1,rx,a,C,dx,fs,g,ex,ea,c,k,l,q⟩=>?_) ht;subst ex;obtain rfl:u=Value.ref a:=rx;exact AE I1 ea c k l (q s1 I1)
end
section
variable {X:Cx} {pins:List (Addr × Obj)} {σ:St} {H:Hp} {s:Shared} {A:Around} {E:Value->Shared->Prop} {Q:Value->Shared->Prop} {c:Value} {b:Bool}
end
structure cV (k:Nat) (A:Around):Prop where
 hd:A.handled=none
 dp:A.depth + 3 * k + 5 < recursionLimit
 un:A.units + 16 * k + 200 < cLine
theorem cV.mono {j k:Nat} (r:cV k A) (h:j<=k):cV j A:=⟨r.hd,by have:=r.dp;omega,by have:=r.un;omega⟩
theorem cV.deeper {k:Nat} {A:Around} (r:cV (k + 1) A) (env:Env):cV k (A.deeper env) :=
 ⟨r.hd,by have:=r.dp;show A.depth + 1 + 3 * k + 5 < _;omega,by have:=r.un;show A.units + 3 + 16 * k + 200 < _;omega⟩
variable {us:List Value} {kw:List (Str × Value)}
theorem Ig:(A.under (.builtin "type.__call__" ⟨.ref C :: us,kw⟩)).depth=A.depth + 1:=by
 first | rfl | simp [Around.under,Code.weight,Code.isCreation,Code.isGuard,Code.isCaller,Code.frames,Code.isFrame,guardIds]
theorem He:(A.under (.builtin "type.__call__" ⟨.ref C :: us,kw⟩)).units=A.units + 1:=by
 first | rfl | simp [Around.under,Code.cUnits,Code.frames,Code.isFrame]
theorem cV.make {k:Nat} (r:cV (k + 1) A) (C:Addr) (us:List Value) (kw:List (Str × Value)):cV k (A.under (.builtin "type.__call__" ⟨.ref C :: us,kw⟩)) :=
 ⟨r.hd,by have:=r.dp;rw [Ig];omega,by have:=r.un;rw [He];omega⟩
theorem cV.depth {k:Nat} {A:Around} (r:cV k A):A.depth < recursionLimit:=by have:=r.dp;omega
theorem cV.units {k:Nat} {A:Around} (r:cV k A):A.units + 64 < cLine:=by have:=r.un;omega
theorem cV.units0 {k:Nat} (r:cV k A):A.units < cLine:=by have:=r.un;omega
def Ra:TA:=fun _ H Q=>Q [] H
def OC (ta:TE) (tr:TA):TA:=fun σ H Q=>ta σ H fun x H1=>tr σ H1 fun xs H2=>Q (x :: xs) H2
section
variable {X:Cx} {e:Expr} {es:List Expr} {te:TE} {t:TA} {pos:Pos}
theorem Sb:PA X [] Ra:=fun _ _ _ _ H Q I h=>Calls.spliced_nil ⟨[],H,I,.nil,h⟩
theorem O3 (ha:PE X e te) (hr:PA X es t) (hs:starEach (e :: es) X.env=(false,eval e X.env) :: starEach es X.env:=by rfl):PA X (e :: es) (OC te t):=by
 intro pos pins s σ H Q I h;rw [hs];show wpAny _ _ (spliced ((false,eval e X.env) :: backTo pos (starEach es X.env))) _ _ s;refine Calls.spliced_cons (bD (ha pins s σ H _ I h) fun u s1 ⟨x,H1,I1,r1,q1⟩=>?_);exact bD (hr pos pins s1 σ H1 _ I1 q1) fun us s2 ⟨xs,H2,I2,r2,q2⟩=>⟨x :: xs,H2,I2,.cons r1 r2,q2⟩
def Tp (t:TA):TE:=fun σ H Q=>t σ H fun xs H1=>xs.length<=sizeLine/\∀ p,H1 p=none->Q (.ref p) (upd H1 p (.tup xs))
def Tn (t:TA):TE:=fun σ H Q=>t σ H fun xs H1=>xs.length<=sizeLine/\∀ p,H1 p=none->Q (.ref p) (upd H1 p (.lst xs))
theorem Tt {x1} (h:PA X es t):PE X (.Tuple es x1 pos) (Tp t):=by
 intro pins s σ H Q I hq;refine wpAny_Tuple_spliced (bD (h pos pins s σ H _ I hq) fun us s1 ⟨xs,H1,I1,r,z,q⟩=>⟨by rw [<- r.length];exact z,?_⟩);have hf:H1 s1.heap.objs.size=none:=I1.hok.fresh (Nat.le_refl _);refine ⟨.ref s1.heap.objs.size,upd H1 s1.heap.objs.size (.tup xs),I1.laid (t':=s1.toks) (fun b u e=>Heap.get?_push_of_some _ e) (Nat.le_refl _) ?_,rfl,q _ hf⟩;exact ⟨z,us,r,⟨_,Heap.get?_push_size _ rfl,rfl,rfl,_,rfl⟩⟩
theorem R4 (h:PA X es t):PE X (.List es pos) (Tn t):=by
 intro pins s σ H Q I hq;refine wpAny_List_spliced (bD (h pos pins s σ H _ I hq) fun us s1 ⟨xs,H1,I1,r,z,q⟩=>⟨by rw [<- r.length];exact z,?_⟩);have hf:H1 s1.heap.objs.size=none:=I1.hok.fresh (Nat.le_refl _);refine ⟨.ref s1.heap.objs.size,upd H1 s1.heap.objs.size (.lst xs),I1.laid (t':=s1.toks) (fun b u e=>Heap.get?_push_of_some _ e) (Nat.le_refl _) ?_,rfl,q _ hf⟩;exact ⟨z,us,0,r,Heap.get?_push_size _ rfl⟩
end
abbrev Sp:=List V->Hp->VK->XK->Prop
abbrev zR:=List Env->Hp->Shared->XK->Value->Shared->Prop
structure w9 (P:Program) (w:World) (K:PySem.W.Frag) (mg:Str->Option Value) (base:Heap) (A:Around) (outer:List Env) (s:Shared) (H:Hp):Prop where
 frames:A.frames=some outer
 mod:Mod K mg base
 bs:∀ b o,base.get? b=some o->s.heap.get? b=some o/\H b=none
 bsz:base.objs.size<=s.heap.objs.size
 funs:s.heap.FunFrames base outer
 frf:∀ b∈jU outer,H b=none
 hok:fD P w H s.heap
 bare:AllBare s.gens
def CE (outer:List Env) (P:Program) (w:World) (H:Hp) (s:Shared) (Q:VK) (u:Value) (s':Shared):Prop :=
 ∃ v H',s'.os=s.os/\AllBare s'.gens/\Un (jU outer) [] H H' s.heap s'.heap/\fD P w H' s'.heap/\RelV v u/\Q v H'
def CR (CX:zR) (outer:List Env) (P:Program) (w:World) (H:Hp) (s:Shared) (Q:VK) (E:XK) (r:Result) (s':Shared):Prop :=
 match r with
 | .ok (.ret u)=>CE outer P w H s Q u s'
 | .ok _=>False
 | .error e=>CX outer H s E e s'
structure fY (P:Program) (w:World) (K:PySem.W.Frag) (mg:Str->Option Value) (base:Heap) (CX:zR) (k:Nat) (f:Addr) (fd:FuncData) (ps:List Str) (sp:Sp):Prop where
 len:∀ vs H Q E,sp vs H Q E->vs.length=ps.length
 run:∀ (A:Around) (outer:List Env) (s:Shared) (H:Hp) (args:Args) (us:List Value) (vs:List V) (Q:VK) (E:XK),cV k A->w9 P w K mg base A outer s H->BindsTo s fd args (ps.zip us)->Vals vs us->sp vs H Q E ->
  codeAny (model P w) A (.call (.ref f) args) (CR CX outer P w H s Q E) s
variable {mg:Str->Option Value} {base:Heap} {outer:List Env}
theorem w9.make (e:w9 P w K mg base A outer s H) (C:Addr) (us:List Value) (kw:List (Str × Value)) :
  w9 P w K mg base (A.under (.builtin "type.__call__" ⟨.ref C :: us,kw⟩)) outer s H:=⟨by first | exact e.frames | (simpa [Around.under,Code.envs,Code.isFrame,pushEnvs] using e.frames),e.mod,e.bs,e.bsz,e.funs,e.frf,e.hok,e.bare⟩
section
variable {X:Cx} {pins:List (Addr × Obj)} {σ:St} {H:Hp} {s s':Shared}
theorem Inv.env0 (I:Inv X pins σ H s):w9 X.prog X.w X.K X.mg X.base X.A X.stack s H :=
 ⟨I.ok.frames,I.ok.mod,I.bs,Nat.le_trans I.ok.bsz I.sz,I.stack,I.stkFree,I.hok,I.bare⟩
theorem Inv.after {Q:VK} {u:Value} (I:Inv X pins σ H s) (h:CE X.stack X.prog X.w H s Q u s'):EP X pins σ Q u s':=by
 obtain ⟨v,H',os,bare,un,hok,r,q⟩:=h;obtain ⟨hh,g,d,t,os'⟩:=s';obtain rfl:os'=s.os:=os;exact ⟨v,H',I.call (h':=hh) (g':=g) (d':=d) (t':=t) (ch:=[]) un hok bare (fun b z=>absurd z (by simp)),r,q⟩
end
def Jd (sp:Sp) (dvs:List V) (E:XK) (t:TA):TE:=fun σ H Q=>t σ H fun vs H1=>sp (vs++dvs) H1 Q E
def Hl (C:Addr) (m:Str) (sp:Sp) (dvs:List V) (E:XK) (ta:TE) (t:TA):TE:=fun σ H Q=>ta σ H fun x H1=>∃ a dx fs,x=.ref a/\H1 a=some (.ins C dx fs)/\fs.lookup m=none /\
 t σ H1 fun vs H2=>sp (x :: (vs++dvs)) H2 Q E
def HM (C:Addr) (sp:Sp) (dvs:List V) (E:XK) (t:TA):TE:=fun σ H Q=>t σ H fun vs H1=>∀ x dx,H1 x=none->H1 dx=none->dx≠x ->
 sp (.ref x :: (vs++dvs)) (upd (upd H1 dx (.own x)) x (.ins C dx [])) (fun v H2=>v=.non/\Q (.ref x) H2) E
def Binds (K:PySem.W.Frag) (fd:FuncData) (ps:List Str) (ds:List Value):Prop :=
 ∀ (s:Shared) (us:List Value),K.In s.heap->(us++ds).length=ps.length->BindsTo s fd ⟨us,[]⟩ (ps.zip (us++ds))
variable {ps:List Str}
theorem Binds.all {fd:FuncData} (h:∀ us:List Value,us.length=ps.length->bindArgs fd ⟨us,[]⟩=pure (ps.zip us)):Binds K fd ps []:=fun s us _ hl=>by
 rw [List.append_nil] at hl ⊢;exact .of_eq (h us hl)
def Passes (CX:zR) (X:Cx) (E:XK):Prop:=∀ (pins:List (Addr × Obj)) (σ:St) (H:Hp) (s:Shared) (e:Value) (s':Shared),Inv X pins σ H s->CX X.stack H s E e s'->X.xe e s'
section
variable {X:Cx} {CX:zR} {k:Nat} {f C:Addr} {fd:FuncData} {ps:List Str} {sp:Sp} {dvs:List V} {ds:List Value} {E:XK} {x m:Str} {p pos apos:Pos} {e o:Expr} {es:List Expr} {ta:TE} {t:TA}
variable {pins:List (Addr × Obj)} {σ:St} {H:Hp} {s:Shared} {Q:VK} {us:List Value} {vs:List V}
theorem AF (F:fY X.prog X.w X.K X.mg X.base CX k f fd ps sp) (hr:cV k X.A) (hb:Binds X.K fd ps ds) (hd:Vals dvs ds) (hx:Passes CX X E)
  (I:Inv X pins σ H s) (r:Vals vs us) (h:sp (vs++dvs) H Q E):wpAny (model X.prog X.w) X.A (call (.ref f) us) (EP X pins σ Q) X.xe s:=by
 have r2:Vals (vs++dvs) (us++ds):=r.append hd;have hl:(us++ds).length=ps.length:=by rw [<- r2.length];exact F.len _ _ _ _ h
 refine wpAny_call (codeAny_mono (F.run X.A X.stack s H ⟨us,[]⟩ (us++ds) (vs++dvs) Q E hr I.env0 (hb s us I.kIn hl) r2 h) fun r s' hq=>?_)
 cases r with
 | error e=>exact hx pins σ H s e s' I hq
 | ok fl =>
  cases fl with
  | ret u=>exact I.after hq
  | next=>exact False.elim hq
  | brk=>exact False.elim hq
  | cont=>exact False.elim hq
theorem Qq (F:fY X.prog X.w X.K X.mg X.base CX k f fd ps sp) (hr:cV k X.A) (hg:Gl X x) (hm:X.mg x=some (.ref f)) (hk:PySem.W.keepIn X.K (.ref f)=true) (hb:Binds X.K fd ps ds) (hd:Vals dvs ds) (hx:Passes CX X E)
  (ha:PA X (e :: es) t) (hdb:(x == ("__debug__":Str))=false:=by decide) (he:starEach (e :: es) X.env=(false,eval e X.env) :: starEach es X.env:=by rfl) (hpl:(backTo pos (starEach es X.env)).any (·.1)=false:=by rfl) :
  PE X (.Call (.Name x p) (e :: es) [] pos) (Jd sp dvs E t):=by
 intro pins s σ H Q I h;refine wpAny_Call_Name_kw (yS I hg hm ?_ hdb);refine PySem.W.callWith_K (h₀:=X.base) I.ok.mod.kin hk (bD (ha pos pins s σ H _ I h) fun us s1 ⟨vs,H1,I1,r,q⟩=>⟨I1.kIn,?_⟩) he hpl;exact AF F hr hb hd hx I1 r q
theorem P7 {pl:Sem Bool} (he:PE X o ta) (c:fT X.K C) (hm:Meth X.K C m f) (F:fY X.prog X.w X.K X.mg X.base CX k f fd ps sp) (hr:cV k X.A) (hb:Binds X.K fd ps ds) (hd:Vals dvs ds) (hx:Passes CX X E) (ha:PA X (e :: es) t)
  (hst:starEach (e :: es) X.env=(false,eval e X.env) :: starEach es X.env:=by rfl) (hpl:(backTo pos (starEach es X.env)).any (·.1)=false:=by rfl)
  (ht:eval (.Call (.Attribute o m apos) (e :: es) [] pos) X.env=(do
   let ov <- eval o X.env
   standAt apos.atName
   let (f,first) <- holding [ov] (getMethod ov m pl)
   callWith pos f first (backTo pos (starEach (e :: es) X.env)) (backToKw pos (keywordEach [] X.env))):=by rfl) :
  PE X (.Call (.Attribute o m apos) (e :: es) [] pos) (Hl C m sp dvs E ta t):=by
 intro pins s σ H Q I h;refine PySem.W.methodCall_KW (pl:=pl) (bD (he pins s σ H _ I h) fun u s1 ⟨x,H1,I1,rx,a,dx,fs,ex,ea,l,q⟩=>?_) ht;subst ex;obtain rfl:u=Value.ref a:=rx;refine AE I1 ea c hm l ?_;refine PySem.W.callWith_K (first:=[.ref a]) (h₀:=X.base) I.ok.mod.kin hm.kp (bD (ha pos pins s1 σ H1 _ I1 q) fun us s2 ⟨vs,H2,I2,r,q2⟩=>⟨I2.kIn,?_⟩) hst hpl;exact AF (us:=.ref a :: us) (vs:=.ref a :: vs) F hr hb hd hx I2 (.cons rfl r) q2
structure Mk (K:PySem.W.Frag) (C f:Addr):Prop where
 makes:PySem.W.makesIn K C=true
 init:PySem.W.findIn K (.ref C) "__init__"=some (some (.ref f))
 fn:PySem.W.isFn K (.ref f)=true
 kp:PySem.W.keepIn K (.ref C)=true
theorem LP (M:Mk X.K C f) (F:fY X.prog X.w X.K X.mg X.base CX k f fd ps sp) (hr:cV (k + 1) X.A) (hb:Binds X.K fd ps ds) (hd:Vals dvs ds)
  (hx:Passes CX X E) (I:Inv X pins σ H s) (r:Vals vs us)
  (h:∀ x dx,H x=none->H dx=none->dx≠x->sp (.ref x :: (vs++dvs)) (upd (upd H dx (.own x)) x (.ins C dx [])) (fun v H2=>v=.non/\Q (.ref x) H2) E) :
  wpAny (model X.prog X.w) X.A (call (.ref C) us) (EP X pins σ Q) X.xe s:=by
 have hq:=h (s.heap.objs.size + 1) s.heap.objs.size (I.hok.fresh (Nat.le_succ _)) (I.hok.fresh (Nat.le_refl _)) (Nat.ne_of_lt (Nat.lt_succ_self _));have I2:=Inv.made (C:=C) I;have r2:Vals (V.ref (s.heap.objs.size + 1) :: (vs++dvs)) (Value.ref (s.heap.objs.size + 1) :: (us++ds)):=.cons rfl (r.append hd)
 have hl:(Value.ref (s.heap.objs.size + 1) :: us++ds).length=ps.length:=by
  have e:=r2.length;rw [F.len _ _ _ _ hq] at e;exact e.symm
 refine wpAny_call (Mq (f:=f) I.kIn M.makes M.init (beq_iff_eq.mp M.fn) (codeAny_mono (F.run _ X.stack _ _ ⟨Value.ref (s.heap.objs.size + 1) :: us,[]⟩ (Value.ref (s.heap.objs.size + 1) :: (us++ds)) _ _ E (hr.make C us [])
  (I2.env0.make C us []) (hb _ (Value.ref (s.heap.objs.size + 1) :: us) I2.kIn hl) r2 hq) fun r s' hq'=>?_))
 cases r with
 | error e=>exact hx pins σ _ _ e s' I2 hq'
 | ok fl =>
  cases fl with
  | ret u =>
   obtain ⟨v,H',I3,rv,ev,q3⟩:=I2.after hq';subst ev;exact ⟨rv,⟨V.ref (s.heap.objs.size + 1),H',I3,rfl,q3⟩⟩
  | next=>exact False.elim hq'
  | brk=>exact False.elim hq'
  | cont=>exact False.elim hq'
theorem Pu (M:Mk X.K C f) (F:fY X.prog X.w X.K X.mg X.base CX k f fd ps sp) (hr:cV (k + 1) X.A) (hg:Gl X x) (hm:X.mg x=some (.ref C)) (hb:Binds X.K fd ps ds) (hd:Vals dvs ds) (hx:Passes CX X E)
  (ha:PA X (e :: es) t) (hdb:(x == ("__debug__":Str))=false:=by decide) (he:starEach (e :: es) X.env=(false,eval e X.env) :: starEach es X.env:=by rfl) (hpl:(backTo pos (starEach es X.env)).any (·.1)=false:=by rfl) :
  PE X (.Call (.Name x p) (e :: es) [] pos) (HM C sp dvs E t):=by
 intro pins s σ H Q I h;refine wpAny_Call_Name_kw (yS I hg hm ?_ hdb);refine PySem.W.callWith_K (h₀:=X.base) I.ok.mod.kin M.kp (bD (ha pos pins s σ H _ I h) fun us s1 ⟨vs,H1,I1,r,q⟩=>⟨I1.kIn,?_⟩) he hpl;exact LP M F hr hb hd hx I1 r q
end
section
variable {X:Cx} {CX:zR} {k:Nat} {f C:Addr} {fd:FuncData} {ps ks:List Str} {sp:Sp} {E:XK} {x m:Str} {p pos apos kpos:Pos} {e o:Expr} {es:List Expr} {kws:List Keyword} {te ta:TE} {t tk:TA} {nm:Option Str}
variable {g:List Value->List Value->List Value} {gV:List V->List V->List V}
end
structure aV (N P:List Str) (sc:Scope):Prop where
 kind:sc.kind=.function
 co:sc.isCoroutine=false
 gen:sc.isGenerator=false
 nd:N.Nodup
 pre:N.take P.length=P
 par:∀ x∈P,sc.names.lookup x=some .local\/sc.names.lookup x=some .cell
 nofree:∀ y∈sc.names,y.2≠.free
theorem CD {kindOf:Str->Option NameKind} {x:Str}:∀ {binds:List (Str × Value)} {m:Str->Option Value},(∀ v,(x,v) ∉ binds)->bindL kindOf binds m x=m x
 | [],_,_=>rfl
 | (n,v) :: r,m,h=>by
  unfold bindL;rw [CD fun w hw=>h w (List.mem_cons_of_mem _ hw)];split
  ·have:x≠n:=by rintro rfl;exact h v List.mem_cons_self
   simp [this]
  ·rfl
theorem CG {kindOf:Str->Option NameKind} {x:Str}:∀ {binds:List (Str × Value)} {m:Str->Option Value},(∀ v,(x,v) ∉ binds)->bindC kindOf binds m x=m x
 | [],_,_=>rfl
 | (n,v) :: r,m,h=>by
  unfold bindC;rw [CG fun w hw=>h w (List.mem_cons_of_mem _ hw)];split
  ·rfl
  ·have:x≠n:=by rintro rfl;exact h v List.mem_cons_self
   simp [this]
theorem CT {kindOf:Str->Option NameKind} {x:Str} {v:Value}:∀ {P:List Str} {vs:List Value} {i:Nat} {m:Str->Option Value},P.Nodup->P[i]?=some x->vs[i]?=some v->kindOf x=some .local ->
  bindL kindOf (P.zip vs) m x=some v
 | [],_,_,_,_,h,_,_=>by simp at h
 | _ :: _,[],_,_,_,_,h,_=>by simp at h
 | p :: P,w :: vs,0,m,nd,h1,h2,hk=>by
  simp at h1 h2;subst h1;subst h2
  show bindL kindOf ((p,w) :: P.zip vs) m p=_;unfold bindL;rw [CD fun v hv=>(List.nodup_cons.mp nd).1 (List.of_mem_zip hv).1,if_pos hk]
  simp
 | p :: P,w :: vs,i + 1,m,nd,h1,h2,hk=>by
  show bindL kindOf ((p,w) :: P.zip vs) m x=_;unfold bindL;exact CT (i:=i) (List.nodup_cons.mp nd).2 (by simpa using h1) (by simpa using h2) hk
theorem CQ {kindOf:Str->Option NameKind} {x:Str} {v:Value}:∀ {P:List Str} {vs:List Value} {i:Nat} {m:Str->Option Value},P.Nodup->P[i]?=some x->vs[i]?=some v->kindOf x≠some .local ->
  bindC kindOf (P.zip vs) m x=some v
 | [],_,_,_,_,h,_,_=>by simp at h
 | _ :: _,[],_,_,_,_,h,_=>by simp at h
 | p :: P,w :: vs,0,m,nd,h1,h2,hk=>by
  simp at h1 h2;subst h1;subst h2
  show bindC kindOf ((p,w) :: P.zip vs) m p=_;unfold bindC;rw [CG fun v hv=>(List.nodup_cons.mp nd).1 (List.of_mem_zip hv).1,if_neg hk]
  simp
 | p :: P,w :: vs,i + 1,m,nd,h1,h2,hk=>by
  show bindC kindOf ((p,w) :: P.zip vs) m x=_;unfold bindC;exact CQ (i:=i) (List.nodup_cons.mp nd).2 (by simpa using h1) (by simpa using h2) hk
def start (N:List Str) (vs:List V):St:=vs.map some++List.replicate (N.length - vs.length) none
def BR (CX:zR) (P:Program) (w:World) (K:PySem.W.Frag) (mg:Str->Option Value) (base:Heap) (N:List Str) (qual:Str) (scope:Scope) (f:Addr) (cd:Value) (A:Around) (outer:List Env) (s:Shared) (H:Hp) (E:XK):Cx where
 prog:=P
 w:=w
 K:=K
 mg:=mg
 base:=base
 A:=A.deeper (envOfC qual scope s.heap.objs.size f cd)
 N:=N
 s₀:=s
 H₀:=H
 env:=envOfC qual scope s.heap.objs.size f cd
 outer:=outer
 stack:=envOfC qual scope s.heap.objs.size f cd :: outer
 ex:=[]
 calm:=true
 fn:=fun _=>true
 pn:=[]
 xe:=fun e s'=>wpAny (model P w) (A.deeper (envOfC qual scope s.heap.objs.size f cd)) (leaving (envOfC qual scope s.heap.objs.size f cd) e) (fun _ s''=>CX outer H s E e s'') (fun e' s''=>CX outer H s E e' s'') s'
theorem Eb {sc:Scope} {n:Nat} {x:Str} (h:sc.names.lookup x=some .cell):∃ c,(cellsFrom n sc.names []).lookup x=some c:=by
 have q:=PySem.W.cellsFrom_some sc.names n [] (.inl h);exact Option.isSome_iff_exists.mp q
variable {f:Addr} {CX:zR} {N:List Str} {qual:Str} {scope:Scope}
theorem K5 {cd:Value} {s1:Shared} {E:XK} {vs:List V}
  (S:aV N ps scope) (hd:A.handled=none) (e0:w9 P w K mg base A outer s H) (hl:vs.length=ps.length) (r:Vals vs us)
  (x:InCallC s s.heap.objs.size (bindL (envOfC qual scope s.heap.objs.size f cd).kindOf (ps.zip us) fun _=>none) (cellsFrom (s.heap.objs.size + 1) scope.names []) (bindC (envOfC qual scope s.heap.objs.size f cd).kindOf (ps.zip us) fun _=>none) s1) :
  Inv (BR CX P w K mg base N qual scope f cd A outer s H E) [] (start N vs) H s1:=by
 have hpl:ps.length<=N.length:=by have:=congrArg List.length S.pre;rw [List.length_take] at this;omega
 obtain ⟨h1,tk,rfl,hk⟩:=x.done;have noA:∀ b:Addr,b ∉ (BR CX P w K mg base N qual scope f cd A outer s H E).ex:=fun b z=>absurd (show b∈([]:List Addr) from z) (by simp)
 refine ⟨⟨e0.mod,S.kind,rfl,rfl,Nat.le_refl _,fun y z c h1 h2=>?_,fun y hy=>?_,fun y c _ h=>?_,fun _=>hd,Around.frames_deeper e0.frames,.inr ⟨rfl,rfl⟩,fun b z=>absurd z (noA b),e0.bs,e0.bsz,fun b _ _=>noA b,fun b z=>absurd z (noA b),e0.funs,e0.frf⟩,
  rfl,e0.bare,Un.kept hk,⟨_,x.toInCall.ns,fun i y v h1 h2 h3=>?_⟩,fun y c h=>⟨_,x.cell y c h⟩,e0.hok.fresh (Nat.le_refl _),fun y c h=>?_,fun p hp=>absurd (show p∈([]:List (Addr × Obj)) from hp) (by simp),e0.hok.kept hk,?_⟩
 ·exact name_of_addr x.apart (PySem.mem_of_lookup h1) (PySem.mem_of_lookup h2)
 ·have hy:scope.names.lookup y=some .cell\/scope.names.lookup y=some .free:=hy
  rcases hy with hy | hy
  ·exact Eb hy
  ·exact absurd rfl (S.nofree _ (PySem.mem_of_lookup hy))
 ·exact Nat.le_of_lt (x.above y c (PySem.mem_of_lookup h))
 ·have hi:i < vs.length:=by
   unfold start at h2
   by_cases hi:i < vs.length
   ·exact hi
   ·rw [List.getElem?_append_right (by simpa using hi)] at h2
    rw [List.getElem?_replicate] at h2;split at h2 <;> cases h2
  have ha:vs[i]?=some v:=by
   unfold start at h2;rw [List.getElem?_append_left (by simpa using hi),List.getElem?_map] at h2
   cases e:vs[i]? with
   | none=>rw [e] at h2;cases h2
   | some a=>rw [e] at h2;cases h2;rfl
  obtain ⟨u,hu,rv⟩:=r.get ha
  have hp:ps[i]?=some y:=by
   rw [<- S.pre,List.getElem?_take_of_lt (by omega)];exact h1
  have ndP:ps.Nodup:=by rw [<- S.pre];exact S.nd.sublist (List.take_sublist _ _)
  refine ⟨u,rv,?_⟩
  rcases S.par y (List.mem_of_getElem? hp) with k | k
  ·exact .inl ⟨k,CT ndP hp hu k⟩
  ·obtain ⟨c,e⟩:=Eb (n:=s.heap.objs.size + 1) k
   refine .inr ⟨.inl k,c,e,?_⟩;have q:=x.cell y c e;rw [CQ ndP hp hu (by show scope.names.lookup y≠_;rw [k];decide)] at q;exact q
 ·exact e0.hok.fresh (Nat.le_of_lt (x.above y c (PySem.mem_of_lookup h)))
 ·unfold start
  show _=N.length;rw [List.length_append,List.length_map,List.length_replicate];omega
theorem N6 {k:Nat} {name:Str} {params:Arguments} {body:List Stmt} {dV kV doc pm cdv ct oc:Value} {an od:Option Addr}
  {osl:Array (Option Value)} {sp:Sp} (lk:K.lookup f=some ⟨oc,od,.func (PySem.W.fnOf name qual params body scope dV kV doc pm an cdv ct),osl⟩) (hcd:PySem.W.codeIn K cdv qual=true) (S:aV N ps scope)
  (len:∀ vs H Q E,sp vs H Q E->vs.length=ps.length)
  (hbody:∀ (A:Around) (outer:List Env) (s:Shared) (H:Hp) (vs:List V) (Q:VK) (E:XK),cV k (A.deeper (envOfC qual scope s.heap.objs.size f cdv))->sp vs H Q E ->
   ∃ t,rB (BR CX P w K mg base N qual scope f cdv A outer s H E) body t/\t { nx:=fun _ H'=>Q .non H',rt:=Q } (start N vs) H) :
  fY P w K mg base CX (k + 1) f (PySem.W.fnOf name qual params body scope dV kV doc pm an cdv ct) ps sp:=by
 refine ⟨len,fun A outer s H args us vs Q E hr e0 hb r hsp=>?_⟩;have hl:=len _ _ _ _ hsp;have KX:K.In s.heap:=e0.mod.kin.keeps fun b o e=>(e0.bs b o e).1;have lim:s.heap.NoLimit:=e0.mod.nolimit.keeps fun b o e=>(e0.bs b o e).1
 have hkind:∀ y∈ps.zip us,scope.names.lookup y.1=some .local\/(scope.names.lookup y.1=some .cell/\((cellsFrom (s.heap.objs.size + 1) scope.names []).lookup y.1).isSome=true):=fun ⟨n,v⟩ hy=>by
  rcases S.par n (List.of_mem_zip hy).1 with q | q
  ·exact .inl q
  ·exact .inr ⟨q,PySem.W.cellsFrom_some _ _ _ (.inl q)⟩
 refine codeAny_call_function hr.depth (KX _ _ lk) rfl S.co S.gen rfl (PySem.W.codeRec_of KX hcd) (hb _ _ _ _ ?_);refine wpAny_newFunctionEnv_cells S.kind hkind fun env he s1 x=>?_;subst he;refine ⟨lim.keeps x.toInCall.keep,codeAny_func ?_⟩;obtain ⟨t,ht,hq⟩:=hbody A outer s H vs Q E (hr.deeper _) hsp;have I:Inv (BR CX P w K mg base N qual scope f cdv A outer s H E) [] (start N vs) H s1:=K5 S hr.hd e0 hl r x;refine wpAny_mono (ht [] s1 (start N vs) H _ I hq) (fun fl s' hs=>?_) fun e s' hs=>hs
 have fin:∀ {σ':St} {H':Hp} {v:V} {u:Value},Inv (BR CX P w K mg base N qual scope f cdv A outer s H E) [] σ' H' s'->RelV v u->Q v H'->CE outer P w H s Q u s' :=
  fun {σ' H' v u} J rv q=>⟨v,H',J.os,J.bare,J.base,J.hok,rv,q⟩
 cases fl with
 | ret u =>
  obtain ⟨v,σ',H',J,rv,q⟩:=hs;exact fin J rv q
 | next =>
  obtain ⟨σ',H',J,q⟩:=hs;exact fin (v:=V.non) (u:=Value.none) J rfl q
 | brk =>
  obtain ⟨_,_,_,q⟩:=hs;exact False.elim q
 | cont =>
  obtain ⟨_,_,_,q⟩:=hs;exact False.elim q
section
variable {X:Cx} {x:Str} {p pos:Pos} {e:Expr} {es:List Expr} {t:TA} {id T:String} {r:List V->Hp->VK->Prop}
def SJ (r:List V->Hp->VK->Prop) (t:TA):TE:=fun σ H Q=>t σ H fun vs H1=>r vs H1 Q
theorem Ma (hc:kT X (.builtin id) r) (hg:Gl X x) (hm:X.mg x=none) (hv:bootBuiltins x=some (.builtin id)) (ha:PA X (e :: es) t) (hn:x≠"__name__":=by decide) (hdb:(x == ("__debug__":Str))=false:=by decide)
  (he:starEach (e :: es) X.env=(false,eval e X.env) :: starEach es X.env:=by rfl) (hpl:(backTo pos (starEach es X.env)).any (·.1)=false:=by rfl):PE X (.Call (.Name x p) (e :: es) [] pos) (SJ r t):=by
 intro pins s σ H Q I h;refine wpAny_Call_Name_kw (tH I hg hm hv ?_ hn hdb);exact PyProof.Rows.callWith_builtin1 (bD (ha pos pins s σ H _ I h) fun us s1 ⟨vs,H1,I1,r1,q1⟩=>hc pins s1 σ H1 vs us Q I1 r1 q1) he hpl
theorem JR (hc:kT X (.type T) r) (hg:Gl X x) (hm:X.mg x=none) (hv:bootBuiltins x=some (.type T)) (ha:PA X (e :: es) t) (hn:x≠"__name__":=by decide) (hdb:(x == ("__debug__":Str))=false:=by decide)
  (he:starEach (e :: es) X.env=(false,eval e X.env) :: starEach es X.env:=by rfl) (hpl:(backTo pos (starEach es X.env)).any (·.1)=false:=by rfl):PE X (.Call (.Name x p) (e :: es) [] pos) (SJ r t):=by
 intro pins s σ H Q I h;refine wpAny_Call_Name_kw (tH I hg hm hv ?_ hn hdb);exact PyProof.Rows.callWith_type1 (bD (ha pos pins s σ H _ I h) fun us s1 ⟨vs,H1,I1,r1,q1⟩=>hc pins s1 σ H1 vs us Q I1 r1 q1) he hpl
end
end L2
namespace HT
open PySem PyProof.Rows
def lexLt:List Int->List Int->Bool
 | [],[]=>false
 | [],_ :: _=>true
 | _ :: _,[]=>false
 | x :: xs,y :: ys=>if x=y then lexLt xs ys else decide (x < y)
theorem Iz (x y:Int) (xs ys:List Int):lexLt (x :: xs) (y :: ys)=if x=y then lexLt xs ys else decide (x < y):=rfl
theorem C6:lexLt [] []=false:=rfl
theorem B2 (y:Int) (ys:List Int):lexLt [] (y :: ys)=true:=rfl
theorem BK (x:Int) (xs:List Int):lexLt (x :: xs) []=false:=rfl
theorem MG (A:Around) (s:Shared) (a:Int) (t:Tok) (c:Int) (u:Tok):∃ e,SeqAt.EqAt A s (.int a t) (.int c u) e/\(e=true ↔ a=c) :=
 ⟨(a == c),SeqAt.EqAt.int_int a t c u,by simp⟩
theorem LN (A:Around) (s:Shared) (a:Int) (t:Tok) (c:Int) (u:Tok) (prog:Program) (w:World) (E:Value->Shared->Prop) (Q:Value->Shared->Prop) (h:Q (.bool (decide (a < c))) s) :
  wpAny (model prog w) A (richCompare .Lt (.int a t) (.int c u)) Q E s :=
 (PyProof.Rows.lt_int h:wpAny (model prog w) A (compareOp .Lt (.int a t) (.int c u)) Q E s)
section
open PySem.SeqAt
open PySem.AutoSeq1 (wpAny_loadPart')
open PySem.MeetsSeq PySem.MeetsSeq2 PySem.MeetsSeq3
theorem Dc (l b:Addr) (items items2:Array Value) (n n2:Nat) (dd dd2:Option Addr) (sl sl2:Array (Option Value)) (ns ms:List Int) (hi:IntsAre items.toList ns) (hj:IntsAre items2.toList ms) :
  Meets (Builtin.«tuple.__lt__» ⟨[.ref l,.ref b],[]⟩)
   (fun _ R s=>s.heap.get? l=some { cls:=.type "tuple",dict:=dd,data:=.seq items n,slots:=sl }/\s.heap.get? b=some { cls:=.type "tuple",dict:=dd2,data:=.seq items2 n2,slots:=sl2 } /\
    R (.ok (.ret (.bool (lexLt ns ms)))) s) :=
 .of_wp fun prog w A R s h=>by
  obtain ⟨hp,g,d,tk,os⟩:=s;obtain ⟨hl,hb,h⟩:=h;have f2:=AutoSeq1.sub_tuple_tuple;have z1:items.size=ns.length:=by rw [<- hi.length];simp
  have z2:items2.size=ms.length:=by rw [<- hj.length];simp
  wp_walk using wpAny_loadPart' hl,wpAny_loadPart' hb,wpAny_forIn_list _ (fun rest b s'=>b.1=none/\s'=⟨hp,g,d,tk,os⟩/\∃ (vs ws:List Value) (ns' ms':List Int),rest=vs.zip ws /\
   IntsAre vs ns'/\IntsAre ws ms'/\ns'.length + items2.size=ms'.length + items.size/\R (.ok (.ret (.bool (lexLt ns' ms')))) ⟨hp,g,d,tk,os⟩) _
  case turn =>
   rintro ⟨y,x⟩ rest b s' ⟨hb',rfl,vs,ws,ns',ms',hz,hvi,hwi,hlen,hR⟩
   cases hvi with
   | nil=>rw [List.zip_nil_left] at hz;cases hz
   | cons a t hvi' =>
    cases hwi with
    | nil=>rw [List.zip_nil_right] at hz;cases hz
    | cons c u hwi' =>
     rw [List.zip_cons_cons] at hz
     injection hz with hyx hrest
     injection hyx with hy hx
     subst hy hx;rw [Iz] at hR;simp only [List.length_cons] at hlen;obtain ⟨e,he,hiff⟩:=MG A.in1 ⟨hp,g,d,tk,os⟩ a t c u;refine wpAny_bind (he prog w _ _ ?_)
     cases e with
     | true =>
      rw [if_pos (hiff.mp rfl)] at hR
      wp_walk
      exact ⟨rfl,rfl,_,_,_,_,hrest,hvi',hwi',by omega,hR⟩
     | false =>
      rw [if_neg (fun q=>absurd (hiff.mpr q) Bool.false_ne_true)] at hR;have hri:=LN A.in1 ⟨hp,g,d,tk,os⟩ a t c u prog w
      wp_walk using hri
      exact ⟨_,rfl,by simpa using hR⟩
  case fin =>
   rintro ⟨b1,b2⟩ s' ⟨hb',rfl,vs,ws,ns',ms',hz,hvi,hwi,hlen,hR⟩;simp only at hb';subst hb'
   have hv:lexLt ns' ms'=decide (items.size < items2.size):=by
    cases hvi with
    | nil =>
     cases hwi with
     | nil =>
      simp only [List.length_nil] at hlen;rw [C6];exact (decide_eq_false (by omega)).symm
     | cons c u hw =>
      simp only [List.length_nil,List.length_cons] at hlen;rw [B2];exact (decide_eq_true (by omega)).symm
    | cons a t hv =>
     cases hwi with
     | nil =>
      simp only [List.length_nil,List.length_cons] at hlen;rw [BK];exact (decide_eq_false (by omega)).symm
     | cons c u hw =>
      rw [List.zip_cons_cons] at hz;cases hz
   rw [hv] at hR
   wp_walk
   exact ⟨_,rfl,by simpa [Builtin.Tuple.tupleCompareSizes] using hR⟩
  case h =>
   exact ⟨rfl,rfl,items.toList,items2.toList,ns,ms,rfl,hi,hj,by omega,h⟩
end
section
variable {prog:Program} {w:World} {A:Around} {E:Value->Shared->Prop} {s:Shared}
variable {b:Addr} {Q:Value->Shared->Prop}
theorem IC {l:Addr} {items items2:Array Value} {ns ms:List Int} (hl:IsTup s.heap l items) (hb:IsTup s.heap b items2) (hi:IntsAre items.toList ns) (hj:IntsAre items2.toList ms)
  (hu:A.units < cLine) (h:Q (.bool (lexLt ns ms)) s):wpAny (model prog w) A (compareOp .Lt (.ref l) (.ref b)) Q E s:=by
 obtain ⟨⟨cls,dd,data,sl⟩,ho,hc,n,hd⟩:=id hl;obtain ⟨⟨cls2,dd2,data2,sl2⟩,ho2,hc2,n2,hd2⟩:=id hb;simp only at hc hd hc2 hd2;subst hc hd hc2 hd2
 exact richCompare_meets_room (op:=.Lt) ⟨_,ho,rfl⟩ ⟨_,ho2,rfl⟩ PySem.F.slot_tuple_lt PySem.F.entry_tuple_lt (PySem.F.args_tuple_lt_2 _ _) (Dc l b items items2 n n2 dd dd2 sl sl2 ns ms hi hj)
  ⟨ho,ho2,show Value.bool (lexLt ns ms)≠Value.notImplemented/\Q (.bool (lexLt ns ms)) s from ⟨(fun x=>nomatch x),h⟩⟩ hu
theorem QP {t:Addr} {vs ws:List Value} (ht:IsTup s.heap t vs.toArray) (hb:IsTup s.heap b ws.toArray) (hv:vs≠[])
  (h1:ws=[]->Q (.ref t) s) (h2:ws≠[]->Q (.ref s.heap.objs.size) { s with heap:=s.heap.push { cls:=.type "tuple",data:=.seq (vs++ws).toArray } })
  (hsz:vs.length + ws.length<=sizeLine):wpAny (model prog w) A (binaryOp .Add (.ref t) (.ref b)) Q E s:=by
 obtain ⟨⟨cls,dd,data,sl⟩,ho,hc,n,hd⟩:=id ht;obtain ⟨⟨cls2,dd2,data2,sl2⟩,ho2,hc2,n2,hd2⟩:=id hb;simp only at hc hd hc2 hd2;subst hc hd hc2 hd2;have e:vs.toArray++ws.toArray=(vs++ws).toArray:=by simp
 by_cases hw:ws=[]
 ·exact concat_meets ⟨_,ho,rfl⟩ ⟨_,ho2,rfl⟩ noFill_tuple_add seq_tuple_add PySem.F.slot_tuple_add PySem.F.entry_tuple_add (PySem.F.args_tuple_add_2 _ _)
   (tuple_addW1 t b vs.toArray ws.toArray n n2 dd dd2 sl sl2 (by simpa using hv) (by simp [hw])) ⟨ho,ho2,h1 hw⟩
 ·refine concat_meets ⟨_,ho,rfl⟩ ⟨_,ho2,rfl⟩ noFill_tuple_add seq_tuple_add PySem.F.slot_tuple_add PySem.F.entry_tuple_add (PySem.F.args_tuple_add_2 _ _)
   (tuple_addW2 t b vs.toArray ws.toArray n n2 dd dd2 sl sl2 (by simpa using hv) (by simpa using hw) (by rw [List.size_toArray,List.size_toArray];exact hsz)) ⟨ho,ho2,?_⟩
  rw [e];exact h2 hw
def bM (n d:Nat):Option Int->Nat
 | none=>d
 | some v=>if v < 0 then (v + (n:Int)).toNat else min v.toNat n
theorem QZ (n d:Nat) (hd:d<=n) (o:Option Int):bM n d o<=n:=by
 cases o with
 | none=>exact hd
 | some v =>
  show (if v < 0 then (v + (n:Int)).toNat else min v.toNat n)<=n
  by_cases hv:v < 0
  ·rw [if_pos hv];omega
  ·rw [if_neg hv];exact Nat.min_le_right _ _
theorem F0 (v:Int) (n d:Nat):(if v < 0 then max (v + (n:Int)) 0 else min v (n:Int))=((bM n d (some v):Nat):Int):=by
 show (if v < 0 then max (v + (n:Int)) 0 else min v (n:Int))=(((if v < 0 then (v + (n:Int)).toNat else min v.toNat n):Nat):Int)
 by_cases hv:v < 0
 ·simp only [if_pos hv];omega
 ·simp only [if_neg hv];omega
theorem Hc (lo hi:Option Int) (n:Nat):Builtin.Slice.sliceAdjust lo hi 1 (n:Int)=(((bM n 0 lo:Nat):Int),((bM n n hi:Nat):Int)):=by
 have h1:¬ ((1:Int) < 0):=by omega
 unfold Builtin.Slice.sliceAdjust;simp only [h1,if_false];refine Prod.ext ?_ ?_
 ·cases lo with
  | none=>rfl
  | some v=>exact F0 v n 0
 ·cases hi with
  | none=>rfl
  | some v=>exact F0 v n n
theorem Hn (i j:Nat):Builtin.Slice.slicePlaces (i:Int) (j:Int) 1=j - i:=by
 unfold Builtin.Slice.slicePlaces;have h1:(1:Int) > 0:=by omega
 simp only [h1,if_true,Int.ediv_one];split <;> omega
theorem Be {v:Value} {o:Option Int} {Q:Option Int->Shared->Prop} (p:IsPart v o) (h:Q o s):wpAny (model prog w) A (Builtin.Slice.slicePartIndex v) Q E s:=by
 cases p with
 | none=>exact slicePart_none h
 | int i t=>exact slicePart_int h
variable {sl:Addr} {vl vu:Value} {lo hi:Option Int}
theorem rG {n:Nat} {Q:Int × Int × Nat->Shared->Prop} (hs:s.heap.IsSliceOf sl vl vu .none) (pl:IsPart vl lo) (pu:IsPart vu hi)
  (h:Q (((bM n 0 lo:Nat):Int),1,bM n n hi - bM n 0 lo) s):wpAny (model prog w) A (Builtin.Slice.sliceApplied (.ref sl) (pure (n:Int))) Q E s:=by
 obtain ⟨os,hos,hcs,hds⟩:=id hs;unfold Builtin.Slice.sliceApplied Builtin.Slice.sliceFields;refine wpAny_bind (wpAny_bind (wpAny_field hos hds (x:=vl) rfl (wpAny_bind (wpAny_field hos hds (x:=vu) rfl (wpAny_bind (wpAny_field hos hds (x:=.none) rfl (wpAny_pure ?_)))))));refine wpAny_bind (slicePart_none ?_);show wpAny _ _ (if ((1:Int) == 0)=true then _ else _) _ _ s;rw [if_neg (by decide)];refine wpAny_bind (Be pl (wpAny_bind (Be pu (wpAny_bind (wpAny_pure ?_)))));show wpAny _ _ (match Builtin.Slice.sliceAdjust lo hi 1 (n:Int) with | (lo,hi)=>pure (lo,(1:Int),Builtin.Slice.slicePlaces lo hi 1)) _ _ s;rw [Hc lo hi n];show wpAny _ _ (pure (((bM n 0 lo:Nat):Int),(1:Int),Builtin.Slice.slicePlaces ((bM n 0 lo:Nat):Int) ((bM n n hi:Nat):Int) 1)) _ _ s;rw [Hn];exact wpAny_pure h
theorem LV (xs:Array Value) (i k:Nat):((List.range k).filterMap fun (m:Nat)=>xs[((i:Int) + (m:Int) * 1).toNat]?).toArray=((xs.toList.drop i).take k).toArray:=by
 have e:(fun (m:Nat)=>xs[((i:Int) + (m:Int) * 1).toNat]?)=fun m=>xs[i + m]?:=by
  funext m
  have:((i:Int) + (m:Int) * 1).toNat=i + m:=by omega
  rw [this]
 rw [e]
 have:=pick_run xs i k
 rw [List.filterMap_map] at this;have e2:((fun x=>xs[x]?) ∘ fun x=>i + x)=fun m=>xs[i + m]?:=rfl;rw [e2] at this;rw [this]
theorem zF {t:Addr} {items:Array Value} (ht:IsTup s.heap t items) (hs:s.heap.IsSliceOf sl vl vu .none) (pl:IsPart vl lo) (pu:IsPart vu hi)
  (hw:¬ (bM items.size 0 lo=0/\bM items.size items.size hi=items.size))
  (h:Q (.ref s.heap.objs.size) { s with heap:=s.heap.push { cls:=.type "tuple",data:=.seq ((items.toList.drop (bM items.size 0 lo)).take (bM items.size items.size hi - bM items.size 0 lo)).toArray } })
  (hsz:items.size<=sizeLine):wpAny (model prog w) A (getItem (.ref t) (.ref sl)) Q E s:=by
 have htake:sizeOk (.seq ((items.toList.drop (bM items.size 0 lo)).take (bM items.size items.size hi - bM items.size 0 lo)).toArray):=by
  show ((items.toList.drop (bM items.size 0 lo)).take (bM items.size items.size hi - bM items.size 0 lo)).toArray.size<=sizeLine;rw [List.size_toArray,List.length_take,List.length_drop,Array.length_toList];omega
 have hj:bM items.size items.size hi<=items.size:=QZ _ _ (Nat.le_refl _) hi;obtain ⟨os,hos,hcs,hds⟩:=id hs
 have hTs:s.TypeIs (.ref sl) "slice":=⟨os,hos,hcs⟩
 unfold getItem
 try with_reducible refine wpAny_holding ?_
 first | refine wpAny_bind (wpAny_pure ?_) | skip
 refine wpAny_bind (wpAny_sequenceKey ht.typeIs (by decide) ?_)
 refine wpAny_bind (wpAny_callSpecial?_slot (name:=Str.ofString "__getitem__") ht.typeIs PyProof.Rows.slot_tuple_getitem
  (wpAny_call_entry PyProof.Rows.slot_tuple_getitem ht.typeIs entry_tuple_getitem ?_ (args_tuple_getitem _ _)))
 show wpAny _ _ (Builtin.Tuple.tupleItemsOf (.ref t) >>= _) _ _ s;refine wpAny_bind (tupleItemsOf_ ht ?_);refine wpAny_bind (wpAny_typeOf hTs ?_);rw [if_pos (by decide)];refine wpAny_bind (rG hs pl pu ?_)
 have hno:¬ ((((bM items.size 0 lo:Nat):Int) == 0 && (1:Int) == 1 && (bM items.size items.size hi - bM items.size 0 lo) == items.size)=true):=by
  intro q;rw [Bool.and_eq_true,Bool.and_eq_true] at q;have q1:((bM items.size 0 lo:Nat):Int)=0:=eq_of_beq q.1.1;have q2:bM items.size items.size hi - bM items.size 0 lo=items.size:=eq_of_beq q.2;exact hw ⟨by omega,by omega⟩
 show wpAny _ _ (if (((bM items.size 0 lo:Nat):Int) == 0 && (1:Int) == 1 && (bM items.size items.size hi - bM items.size 0 lo) == items.size)=true then _ else _) _ _ s;rw [if_neg hno,LV]
 first
  | exact wpAny_bind (m:=Builtin.Tuple.tupleExact _) (wpAny_newObj_type (wpAny_pure ⟨_,rfl,wpAny_pure h⟩) htake)
  | exact wpAny_bind (m:=Builtin.Tuple.tupleExact _) (wpAny_newObj_type (wpAny_bind (wpAny_pure (wpAny_pure ⟨_,rfl,wpAny_pure h⟩))) htake)
  | exact wpAny_bind (wpAny_bind (m:=Builtin.Tuple.tupleExact _) (wpAny_newObj_type (wpAny_pure (wpAny_pure ⟨_,rfl,wpAny_pure h⟩)) htake))
  | exact wpAny_bind (wpAny_bind (m:=Builtin.Tuple.tupleExact _) (wpAny_newObj_type (wpAny_pure ⟨_,rfl,wpAny_pure h⟩) htake))
end
end HT
namespace L2
open PySem PySem.Spec PyProof.Rows
abbrev TO:=St->Hp->(Option Int->Hp->Prop)->Prop
def PO (X:Cx) (e:Option Expr) (t:TO):Prop :=
 ∀ (pins:List (Addr × Obj)) (s:Shared) (σ:St) (H:Hp) (Q:Option Int->Hp->Prop),Inv X pins σ H s->t σ H Q ->
  wpAny (model X.prog X.w) X.A (evalPart e X.env) (fun u s'=>∃ o H',Inv X pins σ H' s'/\IsPart u o/\Q o H') X.xe s
def Gq:TO:=fun _ H Q=>Q none H
def Oc (t:TE):TO:=fun σ H Q=>t σ H fun x H1=>∃ i,x=.int i/\Q (some i) H1
theorem intsAre_of {ns:List Int}:∀ {us:List Value},Vals (ns.map V.int) us->IntsAre us ns:=by
 induction ns with
 | nil=>intro us r;rw [List.map_nil] at r;cases r;exact .nil
 | cons n ns ih =>
  intro us r;rw [List.map_cons] at r
  cases r with
  | cons r1 r2 =>
   obtain ⟨t,e⟩:=r1;subst e;exact .cons n t (ih r2)
section
variable {X:Cx} {e:Expr} {te:TE} {lo hi:Option Expr} {tl th:TO} {pos p2:Pos}
theorem PV:PO X none Gq:=by
 intro pins s σ H Q I h;rw [evalPart_none];exact wpAny_pure ⟨none,H,I,.none,h⟩
theorem O6 (h:PE X e te):PO X (some e) (Oc te):=by
 intro pins s σ H Q I hw;rw [evalPart_some];refine bD (h pins s σ H _ I hw) fun u s1 ⟨x,H1,I1,r1,q1⟩=>?_;obtain ⟨i,rfl,q⟩:=q1;obtain ⟨t,rfl⟩:=r1;exact ⟨some i,H1,I1,.int i t,q⟩
def zK (X:Cx) (r:V->Option Int->Option Int->Hp->VK->Prop):Prop :=
 ∀ (pins:List (Addr × Obj)) (s:Shared) (σ:St) (H:Hp) (x:V) (v vl vu:Value) (lo hi:Option Int) (sl:Addr) (Q:VK),Inv X pins σ H s->RelV x v->s.heap.IsSliceOf sl vl vu .none->IsPart vl lo->IsPart vu hi->r x lo hi H Q ->
  ∃ T id,typeLookup (.type T) "__getitem__"=pure (some (.builtin id))/\s.TypeIs v T/\wpAny (model X.prog X.w) X.A (getItem v (.ref sl)) (EP X pins σ Q) X.xe s
variable {r:V->Option Int->Option Int->Hp->VK->Prop}
theorem zK.or {r':V->Option Int->Option Int->Hp->VK->Prop} (h:zK X r) (h':zK X r'):zK X (fun x lo hi H Q=>r x lo hi H Q\/r' x lo hi H Q):=by
 intro pins s σ H x v vl vu lo hi sl Q I rx hs pl pu q
 rcases q with q | q
 ·exact h pins s σ H x v vl vu lo hi sl Q I rx hs pl pu q
 ·exact h' pins s σ H x v vl vu lo hi sl Q I rx hs pl pu q
def UX (r:V->Option Int->Option Int->Hp->VK->Prop) (te:TE) (tl th:TO):TE:=fun σ H Q=>te σ H fun x H1=>tl σ H1 fun l H2=>th σ H2 fun u H3=>r x l u H3 Q
theorem L9 (hr:zK X r) (he:PE X e te) (hl:PO X lo tl) (hu:PO X hi th):PE X (.Subscript e (.Slice lo hi none p2) pos) (UX r te tl th):=by
 intro pins s σ H Q I h;refine Subscript_ (bD (he pins s σ H _ I h) fun v s1 ⟨x,H1,I1,r1,q1⟩=>?_);refine wpAny_Slice (bD (hl pins s1 σ H1 _ I1 q1) fun vl s2 ⟨l,H2,I2,pl,q2⟩=>bD (hu pins s2 σ H2 _ I2 q2) fun vu s3 ⟨u,H3,I3,pu,q3⟩=>?_);rw [evalPart_none];refine wpAny_pure ?_
 have I4:Inv X pins σ H3 { s3 with heap:=s3.heap.push { cls:=.type "slice",data:=.fields #[vl,vu,.none] } }:=I3.kept (t':=s3.toks) fun b ob q=>Heap.get?_push_of_some _ q
 obtain ⟨T,id,hT,ht,hg⟩:=hr pins { s3 with heap:=s3.heap.push { cls:=.type "slice",data:=.fields #[vl,vu,.none] } } σ H3 x v vl vu l u s3.heap.objs.size Q I4 r1 (Heap.IsSliceOf.new ..) pl pu q3
 show wpAny (model X.prog X.w) X.A (subscriptTail e (.Slice lo hi none p2) v (.ref s3.heap.objs.size)) (EP X pins σ Q) X.xe { s3 with heap:=s3.heap.push { cls:=.type "slice",data:=.fields #[vl,vu,.none] } }
 exact tail_any (ops:=[.ref s3.heap.objs.size,v]) ht hT hg (by with_unfolding_all rfl)
def sR (xs:List V) (lo hi:Option Int):List V:=(xs.drop (HT.bM xs.length 0 lo)).take (HT.bM xs.length xs.length hi - HT.bM xs.length 0 lo)
theorem zJ (xs:List V) (lo hi:Option Int):(sR xs lo hi).length<=xs.length:=by
 unfold sR;rw [List.length_take,List.length_drop];omega
def U0 (K:PySem.W.Frag):V->Option Int->Option Int->Hp->VK->Prop:=fun x lo hi H Q=>∃ a xs,x=.ref a/\fR K H a xs /\
 ¬ (HT.bM xs.length 0 lo=0/\HT.bM xs.length xs.length hi=xs.length)/\∀ p,H p=none->Q (.ref p) (upd H p (.tup (sR xs lo hi)))
theorem Te:zK X (U0 X.K):=by
 intro pins s σ H x v vl vu lo hi sl Q I rx hs pl pu h;obtain ⟨a,xs,rfl,hx,hw,q⟩:=h;cases rx;obtain ⟨its,r,ht,hz⟩:=I.tuple hx;have hlen:its.toArray.size=xs.length:=by rw [List.size_toArray];exact r.length.symm
 refine ⟨"tuple",_,PyProof.Rows.slot_tuple_getitem.lookup,ht.typeIs,?_⟩
 refine HT.zF ht hs pl pu (by rw [hlen];exact hw) ?_ (by rw [hlen];exact hz);rw [hlen];refine ⟨.ref s.heap.objs.size,_,I.laid (t':=s.toks) (o:=.tup (sR xs lo hi)) (fun b ob q=>Heap.get?_push_of_some _ q) (Nat.le_refl _) ?_,rfl,q _ (I.hok.fresh (Nat.le_refl _))⟩;exact ⟨Nat.le_trans (zJ xs lo hi) hz,_,(r.drop (HT.bM xs.length 0 lo)).take (HT.bM xs.length xs.length hi - HT.bM xs.length 0 lo),jM.new _ _⟩
def U9 (K:PySem.W.Frag):R2:=fun x y H Q=>∃ a b ns ms,x=.ref a/\y=.ref b/\fR K H a (ns.map V.int)/\fR K H b (ms.map V.int)/\Q (.bl (HT.lexLt ns ms)) H
theorem S6 (hu:X.A.units < cLine):dI X (compareOp .Lt) (U9 X.K):=by
 intro pins s σ H x y v u Q I rx ry h;obtain ⟨a,b,ns,ms,rfl,rfl,ha,hb,q⟩:=h;cases rx;cases ry;obtain ⟨its,r1,p1,_⟩:=I.tuple ha;obtain ⟨its2,r2,p2,_⟩:=I.tuple hb;have i1:IntsAre its.toArray.toList ns:=intsAre_of r1;have i2:IntsAre its2.toArray.toList ms:=intsAre_of r2;exact HT.IC p1 p2 i1 i2 hu ⟨.bl (HT.lexLt ns ms),H,I,rfl,q⟩
def TB (K:PySem.W.Frag):R2:=fun x y H Q=>∃ a b xs ys,x=.ref a/\y=.ref b/\fR K H a xs/\fR K H b ys/\xs≠[]/\xs.length + ys.length<=sizeLine /\
 (ys=[]->Q (.ref a) H)/\(ys≠[]->∀ p,H p=none->Q (.ref p) (upd H p (.tup (xs++ys))))
theorem Vals.nil_iff {xs:List V} {us:List Value} (r:Vals xs us):us=[] ↔ xs=[]:=by
 cases r with
 | nil=>simp
 | cons _ _=>simp
theorem PU:dI X (binaryOp .Add) (TB X.K):=by
 intro pins s σ H x y v u Q I rx ry h;obtain ⟨a,b,xs,ys,rfl,rfl,ha,hb,hx,hz,q1,q2⟩:=h;cases rx;cases ry;obtain ⟨its,r1,p1,_⟩:=I.tuple ha;obtain ⟨its2,r2,p2,_⟩:=I.tuple hb;refine HT.QP p1 p2 (fun z=>hx (r1.nil_iff.mp z)) (fun z=>⟨.ref a,H,I,rfl,q1 (r2.nil_iff.mp z)⟩) (fun z=>?_) (by rw [<- r1.length,<- r2.length];exact hz);refine ⟨.ref s.heap.objs.size,_,I.laid (t':=s.toks) (o:=.tup (xs++ys)) (fun b ob q=>Heap.get?_push_of_some _ q) (Nat.le_refl _) ?_,rfl,q2 (fun w=>z (r2.nil_iff.mpr w)) _ (I.hok.fresh (Nat.le_refl _))⟩;exact ⟨by rw [List.length_append];exact hz,_,r1.append r2,jM.new _ _⟩
end
def rH (n:Nat) (i:Int):Option Nat:=if 0<=i then (if i < n then some i.toNat else none) else if -(n:Int)<=i then some (i + n).toNat else none
variable {α:Type}
def dH (xs:List α) (i:Int):Option α:=(rH xs.length i).bind fun j=>xs[j]?
variable {i:Int} {j:Nat}
theorem Gh {n:Nat} (h:rH n i=some j):seqIndex? i n=some j/\j < n/\-(n:Int)<=i/\i < n:=by
 unfold rH at h
 by_cases h0:0<=i
 ·rw [if_pos h0] at h
  by_cases h1:i < n
  ·rw [if_pos h1] at h
   have e:i.toNat=j:=Option.some.inj h;exact ⟨by rw [seqIndex_of h0 h1,e],by omega,by omega,h1⟩
  ·rw [if_neg h1] at h;cases h
 ·rw [if_neg h0] at h
  by_cases h1:-(n:Int)<=i
  ·rw [if_pos h1] at h
   have e:(i + n).toNat=j:=Option.some.inj h;exact ⟨by rw [seqIndex_neg (by omega) h1,e],by omega,h1,by omega⟩
  ·rw [if_neg h1] at h;cases h
theorem Bv {xs:List α} {v:α} (h:dH xs i=some v):∃ j,seqIndex? i xs.length=some j/\xs[j]?=some v/\j < xs.length/\-(xs.length:Int)<=i/\i < xs.length:=by
 unfold dH at h
 cases e:rH xs.length i with
 | none=>rw [e] at h;cases h
 | some j =>
  rw [e] at h;obtain ⟨h1,h2,h3,h4⟩:=Gh e;exact ⟨j,h1,h,h2,h3,h4⟩
theorem fK {xs:List α} {v:α} (h:xs[j]?=some v):dH xs (j:Int)=some v:=by
 have hj:j < xs.length:=(List.getElem?_eq_some_iff.mp h).1
 have e:rH xs.length (j:Int)=some j:=by
  unfold rH;rw [if_pos (by omega),if_pos (by omega)];simp
 unfold dH;rw [e];exact h
def GR (b:Expr):Prop:=∀ o i,subscripted b false o i=operate [o,i] (getItem o i)
def A4 (X:Cx) (r:R2):Prop :=
 ∀ (value slice:Expr) (pins:List (Addr × Obj)) (s:Shared) (σ:St) (H:Hp) (x y:V) (v u:Value) (Q:VK),Inv X pins σ H s->RelV x v->RelV y u->r x y H Q ->
  subscripted slice false v u=operate [v,u] (getItem v u)->wpAny (model X.prog X.w) X.A (subscriptTail value slice v u) (EP X pins σ Q) X.xe s
def Sv (X:Cx) (id:String) (r:V->List V->Hp->VK->Prop):Prop :=
 ∀ (pins:List (Addr × Obj)) (s:Shared) (σ:St) (H:Hp) (x:V) (xs:List V) (v:Value) (us:List Value) (Q:VK),Inv X pins σ H s->RelV x v->Vals xs us->r x xs H Q ->
  wpAny (model X.prog X.w) X.A (call (.builtin id) (v :: us)) (EP X pins σ Q) X.xe s
section
variable {X:Cx} {a b:Expr} {ta tb:TE} {pos:Pos}
theorem A4.or {r r':R2} (h:A4 X r) (h':A4 X r'):A4 X (fun x y H Q=>r x y H Q\/r' x y H Q):=by
 intro value slice pins s σ H x y v u Q I rx ry q hs
 rcases q with q | q
 ·exact h value slice pins s σ H x y v u Q I rx ry q hs
 ·exact h' value slice pins s σ H x y v u Q I rx ry q hs
theorem T8 {r:R2} (hr:A4 X r) (ha:PE X a ta) (hb:PE X b tb) (hs:GR b):PE X (.Subscript a b pos) (E4 r ta tb):=by
 intro pins s σ H Q I h;exact Subscript_ (LH ha hb I h fun v u s2 x y H2 I2 rx ry q=>hr a b pins s2 σ H2 x y v u Q I2 rx ry q (hs _ _))
def Sa (K:PySem.W.Frag):R2:=fun x y H Q=>∃ p xs i v,x=.ref p/\y=.int i/\eR K H p xs/\dH xs i=some v/\Q v H
def RN (K:PySem.W.Frag):R2:=fun x y H Q=>∃ p xs i v,x=.ref p/\y=.int i/\fR K H p xs/\dH xs i=some v/\Q v H
def Ti:R2:=fun x y H Q=>∃ z i c,x=.str z/\y=.int i/\z.length<=sizeLine/\dH z.cps.toList i=some c/\Q (.str ⟨#[c]⟩) H
theorem Qx:A4 X (Sa X.K):=by
 intro value slice pins s σ H x y v u Q I rx ry h hs;obtain ⟨p,xs,i,z,rfl,rfl,hq,he,q⟩:=h;cases rx;obtain ⟨t,rfl⟩:=ry;obtain ⟨its,r,pl,hz⟩:=I.list hq;obtain ⟨j,h1,h2,h3,h4,h5⟩:=Bv he;obtain ⟨w,ew,rw'⟩:=r.get h2;have hl:=r.length;have hn:=qU;have fin:EP X pins σ Q w s:=⟨z,H,I,rw',q⟩
 by_cases h0:0<=i
 ·have hj:i.toNat=j:=by
   rw [seqIndex_of h0 h5] at h1;exact Option.some.inj h1
  exact item_listR pl.isList h0 (by omega) (by rw [hj];simpa using ew) fin hs
 ·have hj:(i + (its.toArray.size:Int)).toNat=j:=by
   rw [seqIndex_neg (by omega) h4] at h1;rw [List.size_toArray,<- hl];exact Option.some.inj h1
  exact subscriptTail_builtinR (x:=w) pl.isList.typeIs slot_list_getitem.lookup
   (wpAny_getItem_list_neg (Q:=fun r s'=>r=w/\EP X pins σ Q r s') pl.isList (by omega) (by rw [List.size_toArray] <;> omega) (by omega) (by rw [hj];simpa using ew) ⟨rfl,fin⟩) hs
theorem RK:A4 X (RN X.K):=by
 intro value slice pins s σ H x y v u Q I rx ry h hs;obtain ⟨p,xs,i,z,rfl,rfl,hq,he,q⟩:=h;cases rx;obtain ⟨t,rfl⟩:=ry;obtain ⟨its,r,pl,hz⟩:=I.tuple hq;obtain ⟨j,h1,h2,h3,h4,h5⟩:=Bv he;obtain ⟨w,ew,rw'⟩:=r.get h2;have hl:=r.length;have hn:=qU;have fin:EP X pins σ Q w s:=⟨z,H,I,rw',q⟩
 exact subscriptTail_builtinR (x:=w) pl.typeIs slot_tuple_getitem.lookup
  (getItem_tuple (j:=j) (Q:=fun r s'=>r=w/\EP X pins σ Q r s') pl (by omega) (by omega) (by rw [List.size_toArray,<- hl];exact h1) (by simpa using ew) ⟨rfl,fin⟩) hs
theorem RA:A4 X Ti:=by
 intro value slice pins s σ H x y v u Q I rx ry h hs;obtain ⟨z,i,c,rfl,rfl,hz,he,q⟩:=h;obtain ⟨t,rfl⟩:=rx;obtain ⟨t',rfl⟩:=ry;obtain ⟨j,h1,h2,h3,h4,h5⟩:=Bv he;have hl:z.cps.toList.length=z.length:=by simp [Str.length]
 rw [hl] at h1 h4 h5;have hn:=qU
 exact tail_any (typeIs_str s z t) slot_str_getitem.lookup (getItem_str (c:=c) (by
  have e1:decide (i < -(2 ^ 63:Int))=false:=decide_eq_false (by omega);have e2:decide (i ≥ 2 ^ 63)=false:=decide_eq_false (by omega)
  rw [e1,e2,Bool.or_false]) (by rw [h1];simpa using h2) ⟨.str ⟨#[c]⟩,H,I.tok _,⟨_,rfl⟩,q⟩) hs
def Ux (K:PySem.W.Frag):R2:=fun x y H Q=>Sa K x y H Q\/RN K x y H Q\/Ti x y H Q
theorem Sj:A4 X (Ux X.K):=Qx.or (RK.or RA)
theorem Hg (its:List Value) (n j:Nat) (u:Value):Obj.mapSeq (·.setIfInBounds j u) { cls:=.type "list",data:=.seq its.toArray n }={ cls:=.type "list",data:=.seq (its.set j u).toArray n }:=by
 simp [Obj.mapSeq]
theorem Inv.lst {pins:List (Addr × Obj)} {σ:St} {H:Hp} {s:Shared} {p:Addr} {xs:List V} (I:Inv X pins σ H s) (h:H p=some (.lst xs)) :
  ∃ (its:List Value) (n:Nat),Vals xs its/\s.heap.get? p=some { cls:=.type "list",data:=.seq its.toArray n }/\xs.length<=sizeLine:=by
 obtain ⟨z,its,n,r,e⟩:=I.hok p _ h;exact ⟨its,n,r,e,z⟩
variable {pins:List (Addr × Obj)} {σ:St} {H:Hp} {s:Shared}
theorem Inv.lstUpd {p:Addr} {xs ys:List V} {its its':List Value} {n n':Nat} {f:Obj->Obj} (I:Inv X pins σ H s) (h:H p=some (.lst xs))
  (ho:s.heap.get? p=some { cls:=.type "list",data:=.seq its.toArray n }) (hf:f { cls:=.type "list",data:=.seq its.toArray n }={ cls:=.type "list",data:=.seq its'.toArray n' }) (r:Vals ys its') (hz:ys.length<=sizeLine) (t:Nat) :
  Inv X pins σ (upd H p (.lst ys)) { s with heap:=s.heap.update p f,toks:=t }:=by
 have e:(s.heap.update p f).get? p=some { cls:=.type "list",data:=.seq its'.toArray n' }:=by
  rw [Heap.get?_update_self f ho (by rw [hf] <;> rfl),hf]
 refine I.write (x:=p) (e:=p) (by rw [h];trivial) (.inl rfl) (fun b u hb q=>(Heap.get?_update_other _ _ (Ne.symm hb)).trans q) ⟨_,e⟩ ?_;exact ⟨hz,its',n',r,e⟩
def T2:V->V->V->Hp->(Hp->Prop)->Prop:=fun o i v H Q=>∃ p xs k j,o=.ref p/\i=.int k/\H p=some (.lst xs)/\rH xs.length k=some j/\Q (upd H p (.lst (xs.set j v)))
theorem set_list:Tj X T2:=by
 intro pins s σ H o i v ov iv u Q I ro ri rv h;obtain ⟨p,xs,k,j,rfl,rfl,hp,hj,q⟩:=h;cases ro;obtain ⟨t,rfl⟩:=ri;obtain ⟨its,n,r,ho,hz⟩:=I.lst hp;obtain ⟨h1,h2,h3,h4⟩:=Gh hj;have hl:=r.length;have hn:=qU
 have I':Inv X pins σ (upd H p (.lst (xs.set j v))) { s with heap:=s.heap.update p (Obj.mapSeq (·.setIfInBounds j u)) } :=
  I.lstUpd hp ho (Hg its n j u) (r.set rv j) (by rw [List.length_set];exact hz) s.toks
 by_cases h0:0<=k
 ·have hk:k.toNat=j:=by
   rw [seqIndex_of h0 h4] at h1;exact Option.some.inj h1
  exact PySem.W.ki_setAt ho h0 (by omega) (by rw [List.size_toArray,<- hl];exact h4) (by rw [hk];exact ⟨_,I',q⟩)
 ·have hk:(k + (its.toArray.size:Int)).toNat=j:=by
   rw [seqIndex_neg (by omega) h3] at h1;rw [List.size_toArray,<- hl];exact Option.some.inj h1
  exact PySem.W.ki_setBack ho (by omega) (by rw [List.size_toArray,<- hl];exact h3) (by omega) (by rw [hk];exact ⟨_,I',q⟩)
theorem Fn (lo hi:Option Int) (n:Nat):(sliceBounds lo hi none n).1=((HT.bM n 0 lo:Nat):Int)/\(sliceBounds lo hi none n).2.1=((HT.bM n n hi:Nat):Int)/\(sliceBounds lo hi none n).2.2=1:=by
 refine ⟨?_,?_,rfl⟩
 ·cases lo with
  | none=>simp [sliceBounds,HT.bM]
  | some i =>
   simp only [sliceBounds,HT.bM,Option.getD_none,show (1:Int) > 0 by decide,if_true]
   by_cases h:i < 0
   ·simp only [h,if_true] <;> omega
   ·simp only [h,if_false] <;> omega
 ·cases hi with
  | none=>simp [sliceBounds,HT.bM]
  | some i =>
   simp only [sliceBounds,HT.bM,Option.getD_none,show (1:Int) > 0 by decide,if_true]
   by_cases h:i < 0
   ·simp only [h,if_true] <;> omega
   ·simp only [h,if_false] <;> omega
theorem C2 (its:List Value) (lo hi:Option Int):slicePick its.toArray lo hi none=((its.drop (HT.bM its.length 0 lo)).take (HT.bM its.length its.length hi - HT.bM its.length 0 lo)).toArray:=by
 obtain ⟨h1,h2,h3⟩:=Fn lo hi its.toArray.size;unfold slicePick;rw [h1,h2,h3];simp only [sliceRange_one,pick_run,List.size_toArray] <;> rfl
def Vf (K:PySem.W.Frag):V->Option Int->Option Int->Hp->VK->Prop:=fun x lo hi H Q=>∃ a xs,x=.ref a/\eR K H a xs/\∀ p,H p=none->Q (.ref p) (upd H p (.lst (sR xs lo hi)))
theorem P8:zK X (Vf X.K):=by
 intro pins s σ H x v vl vu lo hi sl Q I rx hs pl pu h;obtain ⟨a,xs,rfl,hx,q⟩:=h;cases rx;obtain ⟨its,r,ht,hz⟩:=I.list hx;have hlen:=r.length
 refine ⟨"list",_,slot_list_getitem.lookup,ht.isList.typeIs,?_⟩
 refine wpAny_getItem_list_slice ht.isList hs pl pu .none (by simp) ?_ (by rw [List.size_toArray] <;> omega);rw [C2,<- hlen];refine ⟨.ref s.heap.objs.size,_,I.laid (t':=s.toks) (o:=.lst (sR xs lo hi)) (fun b ob q=>Heap.get?_push_of_some _ q) (Nat.le_refl _) ?_,rfl,q _ (I.hok.fresh (Nat.le_refl _))⟩;exact ⟨Nat.le_trans (zJ xs lo hi) hz,_,0,(r.drop (HT.bM xs.length 0 lo)).take (HT.bM xs.length xs.length hi - HT.bM xs.length 0 lo),Heap.get?_push_size _ rfl⟩
def i8:V->Bool
 | .non=>true
 | .bl _=>true
 | .int _=>true
 | .str _=>true
 | _=>false
def rY:V->V->Bool
 | .non,.non=>true
 | .bl a,.bl b=>a == b
 | .bl a,.int b=>(if a then 1 else 0) == b
 | .int a,.bl b=>a == (if b then 1 else 0)
 | .int a,.int b=>a == b
 | .str a,.str b=>a == b
 | _,_=>false
variable {y x:V} {v:Value}
theorem SX {A:Around} {u:Value} (ry:RelV y u) (rx:RelV x v) (fy:i8 y=true) (fx:i8 x=true):SeqAt.EqAt A s u v (rY y x):=by
 cases y with
 | non =>
  cases ry
  cases x with
  | non=>cases rx;exact SeqAt.EqAt.same _
  | bl b=>cases rx;exact SeqAt.EqAt.none_bool b
  | int b=>obtain ⟨t,rfl⟩:=rx;exact SeqAt.EqAt.none_int b t
  | str b=>obtain ⟨t,rfl⟩:=rx;exact SeqAt.EqAt.none_str b t
  | _=>exact absurd (show false=true from fx) Bool.false_ne_true
 | bl a =>
  cases ry
  cases x with
  | non=>cases rx;exact SeqAt.EqAt.bool_none a
  | bl b=>cases rx;exact SeqAt.EqAt.bool_bool a b
  | int b=>obtain ⟨t,rfl⟩:=rx;exact SeqAt.EqAt.bool_int a b t
  | str b=>obtain ⟨t,rfl⟩:=rx;exact SeqAt.EqAt.bool_str a b t
  | _=>exact absurd (show false=true from fx) Bool.false_ne_true
 | int a =>
  obtain ⟨t',rfl⟩:=ry
  cases x with
  | non=>cases rx;exact SeqAt.EqAt.int_none a t'
  | bl b=>cases rx;exact SeqAt.EqAt.int_bool a t' b
  | int b=>obtain ⟨t,rfl⟩:=rx;exact SeqAt.EqAt.int_int a t' b t
  | str b=>obtain ⟨t,rfl⟩:=rx;exact SeqAt.EqAt.int_str a t' b t
  | _=>exact absurd (show false=true from fx) Bool.false_ne_true
 | str a =>
  obtain ⟨t',rfl⟩:=ry
  cases x with
  | non=>cases rx;exact SeqAt.EqAt.str_none a t'
  | bl b=>cases rx;exact SeqAt.EqAt.str_bool a t' b
  | int b=>obtain ⟨t,rfl⟩:=rx;exact SeqAt.EqAt.str_int a t' b t
  | str b=>obtain ⟨t,rfl⟩:=rx;exact SeqAt.EqAt.str_str a t' b t
  | _=>exact absurd (show false=true from fx) Bool.false_ne_true
 | _=>exact absurd (show false=true from fy) Bool.false_ne_true
def xO (x:V) (u:Value):Bool:=match u with
 | .none=>rY .non x
 | .bool b=>rY (.bl b) x
 | .int i _=>rY (.int i) x
 | .str z _=>rY (.str z) x
 | _=>false
theorem ET {u:Value} (r:RelV y u) (f:i8 y=true):xO x u=rY y x:=by
 cases y with
 | non=>cases r;rfl
 | bl b=>cases r;rfl
 | int i=>obtain ⟨t,rfl⟩:=r;rfl
 | str z=>obtain ⟨t,rfl⟩:=r;rfl
 | _=>exact absurd (show false=true from f) Bool.false_ne_true
theorem BM {x:V}:∀ {xs:List V} {us:List Value},Vals xs us->xs.all i8=true->us.any (xO x)=xs.any fun y=>rY y x
 | _,_,.nil,_=>rfl
 | y :: xs,u :: us,.cons r t,f=>by
  rw [List.all_cons,Bool.and_eq_true] at f;rw [List.any_cons,List.any_cons,ET r f.1,BM t f.2]
theorem uS {A:Around} {s:Shared} {x:V} {v:Value} (rx:RelV x v) (fx:i8 x=true):∀ {xs:List V} {us:List Value},Vals xs us->xs.all i8=true->∀ u∈us,SeqAt.EqAt A s u v (xO x u)
 | _,_,.nil,_=>fun u hu=>by cases hu
 | y :: xs,u :: us,.cons r t,f=>fun u' hu=>by
  rw [List.all_cons,Bool.and_eq_true] at f
  rcases List.mem_cons.mp hu with rfl | hu
  ·rw [ET r f.1];exact SX r rx f.1 fx
  ·exact uS rx fx t f.2 u' hu
def OE (x:V) (xs:List V):Bool:=xs.any fun y=>rY y x
def UY (K:PySem.W.Frag) (neg:Bool):R2:=fun x y H Q=>∃ p xs,y=.ref p/\(eR K H p xs\/fR K H p xs)/\i8 x=true/\xs.all i8=true/\Q (.bl (if neg then !OE x xs else OE x xs)) H
theorem JH:dI X (compareOp .In) (UY X.K false):=by
 intro pins s σ H x y v u Q I rx ry h;obtain ⟨p,xs,rfl,hq,fx,fs,q⟩:=h;cases ry
 rcases hq with hq | hq
 ·obtain ⟨its,r,pl,hz⟩:=I.list hq
  refine SeqAt.in_listAt (xO x) pl.isList (fun w hw=>uS rx fx r fs w (by simpa using hw)) ⟨.bl _,H,I,rfl,?_⟩;rw [show its.toArray.any (xO x)=its.any (xO x) by simp,BM r fs];exact q
 ·obtain ⟨its,r,pl,hz⟩:=I.tuple hq
  refine SeqAt.in_tupleAt (xO x) pl (fun w hw=>uS rx fx r fs w (by simpa using hw)) ⟨.bl _,H,I,rfl,?_⟩;rw [show its.toArray.any (xO x)=its.any (xO x) by simp,BM r fs];exact q
theorem kT.or {f:Value} {r r':List V->Hp->VK->Prop} (h:kT X f r) (h':kT X f r'):kT X f (fun xs H Q=>r xs H Q\/r' xs H Q):=by
 intro pins s σ H xs us Q I rs q
 rcases q with q | q
 ·exact h pins s σ H xs us Q I rs q
 ·exact h' pins s σ H xs us Q I rs q
theorem En:kT X (.type "list") (fun xs H Q=>∃ p ys,xs=[.ref p]/\(eR X.K H p ys\/fR X.K H p ys)/\∀ l,H l=none->Q (.ref l) (upd H l (.lst ys))):=by
 intro pins s σ H xs us Q I r h;obtain ⟨p,ys,rfl,hq,q⟩:=h;obtain ⟨u,rfl,rx⟩:=vals1 r;cases rx
 have fin:∀ (its:List Value),Vals ys its->ys.length<=sizeLine->∀ (h':Heap) (c':Nat),(∀ b o',s.heap.get? b=some o'->h'.get? b=some o') ->
   h'.get? s.heap.objs.size=some { cls:=.type "list",dict:=none,data:=.seq its.toArray c',slots:=#[] }->EP X pins σ Q (.ref s.heap.objs.size) { s with heap:=h' }:=fun its r' hz h' c' kp e =>
  ⟨.ref s.heap.objs.size,_,I.laid (t':=s.toks) kp (Nat.le_refl _) (show cZ X.prog X.w _ h' _ (.lst ys) from ⟨hz,its,c',r',e⟩),rfl,q _ (I.hok.fresh (Nat.le_refl _))⟩
 rcases hq with hq | hq
 ·obtain ⟨its,r',pl,hz⟩:=I.list hq
  have hlen:=r'.length;obtain ⟨o,ho,hc,n,hd⟩:=pl.isList;exact call_list_seq p (.inl rfl) ho hc hd (fun h' c' kp e=>fin its r' hz h' c' kp e) (by simp only [List.size_toArray] <;> omega)
 ·obtain ⟨its,r',pl,hz⟩:=I.tuple hq
  have hlen:=r'.length;obtain ⟨o,ho,hc,n,hd⟩:=pl;exact call_list_seq p (.inr rfl) ho hc hd (fun h' c' kp e=>fin its r' hz h' c' kp e) (by simp only [List.size_toArray] <;> omega)
theorem CY:kT X (.type "tuple") (fun xs H Q=>∃ p ys,xs=[.ref p]/\((eR X.K H p ys/\∀ l,H l=none->Q (.ref l) (upd H l (.tup ys)))\/(fR X.K H p ys/\Q (.ref p) H))):=by
 intro pins s σ H xs us Q I r h;obtain ⟨p,ys,rfl,h⟩:=h;obtain ⟨u,rfl,rx⟩:=vals1 r;cases rx
 rcases h with ⟨hq,q⟩ | ⟨hq,q⟩
 ·obtain ⟨its,r',pl,hz⟩:=I.list hq
  have hlen:=r'.length;refine call_tuple_list pl.isList (fun h' kp=>?_) (by simp only [List.size_toArray] <;> omega);have I1:Inv X pins σ H { s with heap:=h' }:=I.kept (t':=s.toks) kp
  have I2:Inv X pins σ (upd H h'.objs.size (.tup ys)) { s with heap:=h'.push { cls:=.type "tuple",data:=.seq its.toArray } } :=
   I1.laid (t':=s.toks) (fun b o e=>Heap.get?_push_of_some _ e) (Nat.le_refl _) (show cZ X.prog X.w _ _ _ (.tup ys) from ⟨hz,its,r',jM.new _ _⟩)
  exact ⟨.ref h'.objs.size,_,I2,rfl,q _ (I1.hok.fresh (Nat.le_refl _))⟩
 ·obtain ⟨its,r',pl,hz⟩:=I.tuple hq
  exact call_tuple_same pl ⟨.ref p,H,I,rfl,q⟩
def N8 (K:PySem.W.Frag) (T:String) (x:V) (H:Hp):Prop:=match x with
 | .str _=>T="str"
 | .int _=>T="int"
 | .ref p=>(T="list"/\∃ xs,eR K H p xs)\/(T="tuple"/\∃ o,K.lookup p=some o/\o.cls=.type "tuple"/\o.dict=none) \/
   (T="dict"/\((∃ kvs,H p=some (.dK kvs))\/∃ kvs,H p=some (.dT kvs)))\/(T="set"/\∃ S n,H p=some (.set S n))
 | _=>False
theorem K2 {T:String} (I:Inv X pins σ H s) (r:RelV x v) (ty:N8 X.K T x H) :
  s.TypeIs v T/\∀ a,v=.ref a->∃ ob,s.heap.get? a=some ob/\ob.dict=none:=by
 cases x with
 | str z =>
  obtain ⟨t,rfl⟩:=r
  cases (show T="str" from ty)
  exact ⟨typeIs_str s z t,fun _ e=>nomatch e⟩
 | int i =>
  obtain ⟨t,rfl⟩:=r
  cases (show T="int" from ty)
  exact ⟨typeIs_int s i t,fun _ e=>nomatch e⟩
 | ref p =>
  cases r
  rcases ty with ⟨rfl,xs,hq⟩ | ⟨rfl,o,hk,hc,hd⟩ | ⟨rfl,hk⟩ | ⟨rfl,S,n,hk⟩
  ·obtain ⟨its,_,pl,_⟩:=I.list hq
   refine ⟨pl.isList.typeIs,fun a e=>?_⟩;cases e;obtain ⟨o,n,e,c,hd,_⟩:=pl;exact ⟨o,e,hd⟩
  ·refine ⟨⟨o,I.kIn p o hk,hc⟩,fun a e=>?_⟩
   cases e;exact ⟨o,I.kIn _ o hk,hd⟩
  ·have z:∃ o,s.heap.get? p=some o/\o.ExactDict:=by
    rcases hk with ⟨kvs,hk⟩ | ⟨kvs,hk⟩
    ·obtain ⟨_,_,_,_,o,_,_,e,ex,_⟩:=I.hok p _ hk
     exact ⟨o,e,ex⟩
    ·obtain ⟨_,_,_,_,o,_,_,e,ex,_⟩:=I.hok p _ hk
     exact ⟨o,e,ex⟩
   obtain ⟨o,e,ex⟩:=z;refine ⟨⟨o,e,ex.1⟩,fun a e2=>?_⟩;cases e2;exact ⟨o,e,ex.2.1⟩
  ·obtain ⟨o,_,_,_,e,ex,_⟩:=I.hok p _ hk
   refine ⟨⟨o,e,ex.1⟩,fun a e2=>?_⟩;cases e2;exact ⟨o,e,ex.2.1⟩
 | _=>exact False.elim ty
def RT (K:PySem.W.Frag) (T:String) (r:V->List V->Hp->VK->Prop) (to:TE):TE:=fun σ H Q=>to σ H fun x H1=>N8 K T x H1/\r x [] H1 Q
def UU (K:PySem.W.Frag) (T:String) (r:V->List V->Hp->VK->Prop) (to:TE) (t:TA):TE:=fun σ H Q=>to σ H fun x H1=>N8 K T x H1/\t σ H1 fun xs H2=>r x xs H2 Q
variable {o e:Expr} {es:List Expr} {to:TE} {t:TA} {name:Str} {apos cpos:Pos} {T id:String} {r:V->List V->Hp->VK->Prop}
theorem QY (pa:PlainAttrs T) (slot:Slot T name id) (hty:typeOf (.builtin id)=pure (.type "method_descriptor")) (hm:Sv X id r) (ho:PE X o to)
  (hbase:attributeBase o name X.env (eval o X.env)=eval o X.env:=by rfl) (hline:(apos.endLine == cpos.line)=true:=by rfl):PE X (.Call (.Attribute o name apos) [] [] cpos) (RT X.K T r to):=by
 intro pins s σ H Q I h;refine wpAny_Call_method0_late hbase hline (bD (ho pins s σ H _ I h) fun v s1 ⟨x,H1,I1,r1,ty,q1⟩=>?_);obtain ⟨h1,h2⟩:=K2 I1 r1 ty;exact ⟨T,id,pa,slot,hty,h1,h2,Calls.callWith_builtin rfl (PySem.evalArgs_none (hm pins s1 σ H1 x [] v [] Q I1 r1 .nil q1))⟩
theorem IG (pa:PlainAttrs T) (slot:Slot T name id) (hty:typeOf (.builtin id)=pure (.type "method_descriptor")) (hm:Sv X id r) (ho:PE X o to) (ha:PA X (e :: es) t)
  (hbase:attributeBase o name X.env (eval o X.env)=eval o X.env:=by rfl)
  (hfew:((backTo cpos (starEach (e :: es) X.env)).all (fun x=>!x.1) && (backToKw cpos (keywordEach [] X.env)).all (fun x=>x.1.isSome)
   && decide ((e :: es).length + ([]:List Keyword).length + (if ([]:List Keyword).isEmpty then 0 else 1) < 30))=true:=by rfl)
  (hline:(apos.endLine == cpos.line)=true:=by rfl) (hs:starEach (e :: es) X.env=(false,eval e X.env) :: starEach es X.env:=by rfl) (hplain:(backTo cpos (starEach es X.env)).any (·.1)=false:=by rfl) :
  PE X (.Call (.Attribute o name apos) (e :: es) [] cpos) (UU X.K T r to t):=by
 intro pins s σ H Q I h;refine wpAny_Call_method_late hbase hfew hline rfl (bD (ho pins s σ H _ I h) fun v s1 ⟨x,H1,I1,r1,ty,q1⟩=>?_);obtain ⟨h1,h2⟩:=K2 I1 r1 ty;refine ⟨T,id,pa,slot,hty,h1,h2,?_⟩;have hA:=ha cpos pins s1 σ H1 _ I1 q1;rw [hs] at hA ⊢;refine Calls.callWith_builtin (by show (false || (backTo cpos (starEach es X.env)).any (·.1))=false;rw [hplain] <;> rfl) (Calls.evalArgs_plain ?_);exact bD hA fun us s2 ⟨vs,H2,I2,r2,q2⟩=>hm pins s2 σ H2 x vs v us Q I2 r1 r2 q2
end
def JF (X:Cx) (id:String) (r:V->List V->Hp->VK->Prop):Prop :=
 ∀ (pins:List (Addr × Obj)) (s:Shared) (σ:St) (H:Hp) (x:V) (xs:List V) (v:Value) (us:List Value) (Q:VK),Inv X pins σ H s->RelV x v->Vals xs us->r x xs H Q ->
  wpAny (model X.prog X.w) X.A (call (.builtin id) (v :: us)) (EP X pins σ Q) X.xe s
theorem Vals.one:∀ {x:V} {us:List Value},Vals [x] us->∃ u,us=[u]/\RelV x u
 | _,_,.cons r .nil=>⟨_,rfl,r⟩
theorem Vals.zero:∀ {us:List Value},Vals [] us->us=[]
 | _,.nil=>rfl
theorem Vals.dropLast {xs:List V} {us:List Value} (h:Vals xs us):Vals xs.dropLast us.dropLast:=by
 induction h with
 | nil=>exact .nil
 | cons r t ih =>
  cases t with
  | nil=>exact .nil
  | cons q t'=>exact .cons r ih
theorem Vals.rep {xs:List V} {us:List Value} (h:Vals xs us):∀ k:Nat,Vals (List.replicate k xs).flatten (List.replicate k us).flatten
 | 0=>.nil
 | k + 1=>by
  rw [List.replicate_succ,List.replicate_succ,List.flatten_cons,List.flatten_cons];exact Vals.append h (Vals.rep h k)
theorem IE (l:List α):l.eraseIdx (l.length - 1)=l.dropLast:=by
 induction l with
 | nil=>rfl
 | cons a r ih =>
  cases r with
  | nil=>rfl
  | cons b r =>
   have e:(a :: b :: r).length - 1=((b :: r).length - 1) + 1:=by
    have h1:(a :: b :: r).length=r.length + 2:=rfl;have h2:(b :: r).length=r.length + 1:=rfl;omega
   rw [e,List.eraseIdx_cons_succ,ih]
   all_goals rfl
theorem foldl_rep (its:List Value):∀ (k:Nat) (acc:List Value),
  List.foldl (fun x1 x2=>x1++x2) acc.toArray (List.replicate k its.toArray)=(acc++(List.replicate k its).flatten).toArray
 | 0,acc=>by simp
 | k + 1,acc=>by
  have e:acc.toArray++its.toArray=(acc++its).toArray:=by simp
  have e2:(acc++its)++(List.replicate k its).flatten=acc++(List.replicate (k + 1) its).flatten:=by
   rw [List.replicate_succ,List.flatten_cons,List.append_assoc]
  rw [<- e2,<- foldl_rep its k (acc++its),<- e,List.replicate_succ,List.foldl_cons]
section
variable {X:Cx} {pins:List (Addr × Obj)} {σ:St} {H:Hp} {s:Shared} {l b:Addr} {xs ys zs:List V}
variable {its:List Value} {n t':Nat}
theorem Inv.lset {its':List Value} {f:Array Value->Array Value} (I:Inv X pins σ H s) (hH:H l=some (.lst xs))
  (e:s.heap.get? l=some { cls:=.type "list",data:=.seq its.toArray n }) (hf:f its.toArray=its'.toArray) (hv:Vals ys its') (hz:ys.length<=sizeLine) :
  Inv X pins σ (upd H l (.lst ys)) { s with heap:=s.heap.update l (Obj.mapSeq f),toks:=t' }:=by
 have q:=PySem.IsL.update e f;rw [hf] at q;refine I.write (x:=l) (e:=l) (by rw [hH];exact trivial) (.inl rfl) (fun b' u hb hu=>(Heap.get?_update_other s.heap (Obj.mapSeq f) (Ne.symm hb)).trans hu) ⟨_,q⟩ ?_;exact ⟨hz,its',_,hv,q⟩
theorem Inv.lnew (I:Inv X pins σ H s) (hv:Vals ys its) (hz:ys.length<=sizeLine) :
  Inv X pins σ (upd H s.heap.objs.size (.lst ys)) { s with heap:=s.heap.push { cls:=.type "list",data:=.seq its.toArray },toks:=t' } :=
 I.laid (fun _ _ q=>Heap.get?_push_of_some _ q) (Nat.le_refl _) ⟨hz,its,0,hv,Heap.get?_push_size _ rfl⟩
theorem Inv.fresh (I:Inv X pins σ H s):H s.heap.objs.size=none:=I.hok.fresh (Nat.le_refl _)
theorem Inv.lstM (I:Inv X pins σ H s) (hH:H l=some (.lst xs)):xs.length<=sizeLine/\∃ (its:List Value) (n:Nat),Vals xs its/\xs.length=its.length/\s.heap.get? l=some { cls:=.type "list",data:=.seq its.toArray n }:=by
 obtain ⟨z,its,n,r,e⟩:=I.hok l _ hH;exact ⟨z,its,n,r,r.length,e⟩
theorem EG (h:n<=sizeLine):Builtin.List.listTooLong n=false:=by
 unfold Builtin.List.listTooLong;exact decide_eq_false (by omega)
end
section
variable {X:Cx}
def Gw:V->List V->Hp->VK->Prop:=fun x vs H Q=>∃ l xs y,x=.ref l/\vs=[y]/\H l=some (.lst xs)/\xs.length < sizeLine/\Q .non (upd H l (.lst (xs++[y])))
theorem CJ:JF X "list.append" Gw:=by
 intro pins s σ H x vs v us Q I rx rv h;obtain ⟨l,xs,y,rfl,rfl,hH,hz,q⟩:=h;cases rx;obtain ⟨u,rfl,ru⟩:=rv.one;obtain ⟨z,its,n,r,hl,e⟩:=I.lstM hH;refine call_meets F.slot_list_append ⟨_,e,rfl⟩ F.entry_list_append (F.args_list_append_2 _ _) (PySem.list_append l its.toArray n u (by rw [List.size_toArray];omega)) ⟨e,?_⟩;refine ⟨.non,_,I.lset (its':=its++[u]) hH e (by simp) (r.append (.cons ru .nil)) ?_,rfl,q⟩;rw [List.length_append,List.length_singleton];omega
def Sl:V->List V->Hp->VK->Prop:=fun x vs H Q=>∃ l xs y,x=.ref l/\vs=[]/\H l=some (.lst xs)/\xs[xs.length - 1]?=some y/\Q y (upd H l (.lst xs.dropLast))
theorem Rg:JF X "list.pop" Sl:=by
 intro pins s σ H x vs v us Q I rx rv h;obtain ⟨l,xs,y,rfl,rfl,hH,hy,q⟩:=h;cases rx;have hus:=rv.zero;subst hus;obtain ⟨z,its,n,r,hl,e⟩:=I.lstM hH;obtain ⟨u,hu,ru⟩:=r.get hy
 have hy':its.toArray[its.toArray.size - 1]?=some u:=by
  show its.toArray[its.length - 1]?=some u;rw [<- Array.getElem?_toList,<- hl];exact hu
 refine call_meets F.slot_list_pop ⟨_,e,rfl⟩ F.entry_list_pop (F.args_list_pop_1 _) (MeetsSeq.list_pop_last l its.toArray n u hy' (by rw [List.size_toArray];omega)) ⟨e,?_⟩;refine ⟨y,_,I.lset (its':=its.dropLast) hH e ?_ r.dropLast ?_,ru,q⟩
 ·show its.toArray.eraseIdxIfInBounds (its.toArray.size - 1)=its.dropLast.toArray
  rw [List.size_toArray,List.eraseIdxIfInBounds_toArray,IE]
 ·rw [List.length_dropLast]
  omega
def RC:R2:=fun x y H Q=>∃ l k xs,x=.ref l/\y=.int k/\H l=some (.lst xs)/\-(2 ^ 63)<=k/\k < 2 ^ 63/\xs.length * k.toNat<=sizeLine /\
 ∀ p,H p=none->Q (.ref p) (upd H p (.lst (List.replicate k.toNat xs).flatten))
theorem len_rep {α:Type} (xs:List α) (k:Nat):(List.replicate k xs).flatten.length=k * xs.length:=by
 induction k with
 | zero=>simp
 | succ k ih=>rw [List.replicate_succ,List.flatten_cons,List.length_append,ih,Nat.succ_mul,Nat.add_comm]
theorem Si:dI X (binaryOp .Mult) RC:=by
 intro pins s σ H x y v u Q I rx ry h;obtain ⟨l,k,xs,rfl,rfl,hH,h1,h2,hz,q⟩:=h;cases rx;obtain ⟨t,rfl⟩:=ry;obtain ⟨z,its,n,r,hl,e⟩:=I.lstM hH;have hlen:its.toArray.size * k.toNat<=sizeLine:=by rw [List.size_toArray,<- hl];exact hz
 have hcap:¬ its.toArray.size * k.toNat > (2 ^ 63 - 1) / 8:=by
  have:(sizeLine:Nat)<=(2 ^ 63 - 1) / 8:=by decide
  omega
 have hfit:¬ (!Builtin.List.listFitsIndex k)=true:=by
  rw [fitsIndex_both h1 h2];exact Bool.false_ne_true
 have hlong:¬ Builtin.List.listTooLong (its.toArray.size * k.toNat)=true:=by
  rw [EG hlen];exact Bool.false_ne_true
 have hnew:List.foldl (fun x1 x2=>x1++x2) #[] (List.replicate (if its.toArray.isEmpty=true then 0 else k.toNat) its.toArray)=(List.replicate k.toNat its).flatten.toArray:=by
  have f0:∀ m:Nat,List.foldl (fun x1 x2=>x1++x2) #[] (List.replicate m its.toArray)=(List.replicate m its).flatten.toArray:=fun m=>by
   have:=foldl_rep its m []
   rw [List.nil_append] at this;exact this
  rw [f0]
  cases its with
  | nil=>simp
  | cons a r'=>rw [if_neg (by simp)]
 refine wpAny_binaryOp_repeat_ref (T:="list") (U:="int") (by decide) ⟨_,e,rfl⟩ (fun s'=>typeIs_int s' k t) noFill_list_mul F.fills_int_mul F.slot_int_rmul repeat_list F.slot_int_index.lookup
  (call_meets F.slot_int_rmul (typeIs_int s k t) F.entry_int_rmul (F.args_int_rmul_2 _ _) (int___rmul___int_list k t l its.toArray n)
   ⟨e,rfl,⟨_,e,rfl⟩,call_meets F.slot_list_mul ⟨_,e,rfl⟩ F.entry_list_mul (F.args_list_mul_2 _ _) (AutoListH.list___mul___list_int_3 l its.toArray n k t hfit hcap hlong) ⟨e,?_⟩⟩)
 rw [hnew];exact ⟨.ref _,_,I.lnew (t':=s.toks) (r.rep k.toNat) (by rw [len_rep,Nat.mul_comm];exact hz),rfl,q _ I.fresh⟩
end
section
variable {prog:Program} {w:World} {A:Around} {E:Value->Shared->Prop} {s:Shared}
end
section
variable {X:Cx}
end
end L2
namespace Att
open PySem PySem.W PySem.Calls PyProof.Rows
variable {P:Params} {h:Heap}
theorem Ba:∀ (ns:List Int) (vs:List Value),WellAll P h vs (ns.map WData.int)->IntsAre vs ns:=by
 intro ns
 induction ns with
 | nil =>
  intro vs w;rw [List.map_nil] at w;cases w;exact .nil
 | cons n ns ih =>
  intro vs w;rw [List.map_cons] at w
  cases w with
  | cons a b =>
   cases a;exact .cons _ _ (ih _ b)
variable {l:OpenLaw} {n:Nat}
theorem JC (hn:l.most=some n) {args:List WData} {vals:List Value}
  (hpre:l.row.toRowW.claim.pre args=true) (hwl:WellAll P h vals args) :
  ∃ a vs ns,vals=[Value.ref a]/\args=[WData.list (ns.map WData.int)]/\h.get? a=some { cls:=.type "list",data:=.seq vs.toArray }/\IntsAre vs ns/\ns.length<=n:=by
 have hsh:WShape.hasAll [] args [.list .int]=true:=(pre_splitW hpre).1;have hc:l.pre.holds [] { args:=args }=true:=(pre_splitW hpre).2;obtain ⟨d,r,rfl,h1,h2⟩:=hasAllW_cons hsh;obtain rfl:=hasAllW_nil h2;obtain ⟨xs,rfl,h3⟩:=hasW_list h1;obtain ⟨ns,rfl⟩:=items_int h3
 have hlen:ns.length<=n:=by
  unfold OpenLaw.pre at hc
  have h4:(WTm.not (.lt (.lit (.int (n:Int))) (.len (.arg 0)))).holds [] { args:=[.list (ns.map .int)] }=true:=by
   have h4:=(holds_andW hc).1;rw [hn] at h4;exact h4
  have h5:=condW_of h4 (w_not (w_lt w_lit (w_len_list (w_arg rfl))));rw [List.length_map] at h5;refine Nat.le_of_not_lt fun q=>?_;have q':(n:Int) < ((ns.length:Nat):Int):=by omega
  first
   | (rw [decide_eq_true q'] at h5;exact absurd h5 (by decide))
   | (simp at h5;omega)
 cases hwl with
 | cons w1 w2 =>
  cases w2
  cases w1 with
  | list ho hall=>exact ⟨_,_,ns,rfl,rfl,ho,Ba ns _ hall,hlen⟩
theorem Jq (l:OpenLaw) (args:List WData):l.row.toRowW.claim.post args (.bool true) args=true :=
 postW_of (r:=l.row.toRowW) (X:=(true == true))
  (show WShape.has [] (.bool true) .bool=true by first | rfl | decide | simp [WShape.has,WShape.arms,WShape.armsAll])
  (show (WTm.eq .res (.lit (.bool true))).value [] { args:=args,res:=some (.bool true),after:=args }=some (.bool (true == true)) from w_eq_bool (w_res rfl) w_lit) rfl
theorem attach_call {q:Program} {loose:List Str} {XP:(Str->Option Value)->Heap->Prop} {YP:World->Heap->Prop} {d:DefRec}
  (hn:l.most=some n) (hdf:d.params.defaults=[])
  (call:∀ (w:World) (s₀ s₁:Shared) (mg mb:Str->Option Value) (fa:Addr) (o:Obj) (pm cd doc:Value) (a:Addr) (vs:List Value) (ns:List Int),
   Ground q loose [] XP w s₀ mg mb s₁.heap->YP w s₁.heap ->
   s₁.heap.get? fa=some o->o.data=.func (docDef d.name d.params d.body d.scope pm cd doc)->s₁.heap.CodeRec cd d.name->mg d.name=some (.ref fa) ->
   s₁.heap.get? a=some { cls:=.type "list",data:=.seq vs.toArray }->IntsAre vs ns->ns.length<=n->s₁.gens=#[] ->
   codeAny (model l.prog w) callerA (.call (.ref fa) ⟨[.ref a],[]⟩) (fun r s'=>r=.ok (.ret (.bool true))/\OldK s₁.heap s'.heap/\s'.os=s₁.os/\AllBare s'.gens) s₁) :
  WalkO q loose XP YP l.row.toRowW d [] (fun f vs=>PySem.call f vs):=by
 intro w s₀ s₁ mg mb G Y fa o pm cd doc dV kV ho hd hcd hD hmg hg args vals as hpre hlay hrd hwl hlo;obtain rfl:dV=.none:=Dflts.none hD hdf;obtain rfl:kV=.none:=Dflts.noKw hD;obtain ⟨a,vs,ns,rfl,rfl,hobj,hints,hlen⟩:=JC hn hpre hwl;refine enter_call (codeAny_mono (call w s₀ s₁ mg mb fa o pm cd doc a vs ns G Y ho (fd_plain hd) hcd hmg hobj hints hlen hg) fun r s' hq=>?_);obtain ⟨rfl,h2,h3,h4⟩:=hq;exact ⟨.inl ⟨.bool true,.bool true,[],rfl,fun _=>rfl,.bool true,Jq l _,fun _=>⟨List.Pairwise.nil,fun _ hm=>(nomatch hm)⟩⟩,h2,h3,h4⟩
section
variable {prog:Program} {w:World} {A:Around} {E:Value->Shared->Prop} {s:Shared} {K:Frag}
def Kh (h:Heap):Heap:={ h with objs:=#[] }
theorem Uu (h:Heap) (b:Addr):(Kh h).get? b=none:=by
 cases e:(Kh h).get? b with
 | none=>rfl
 | some o=>exact absurd (Heap.lt_size e) (Nat.not_lt_zero _)
end
end Att
namespace L2
open PySem PySem.Spec PyProof.Rows
theorem CN:∀ {vs:List Value} {ns:List Int},IntsAre vs ns->Vals (ns.map V.int) vs
 | _,_,.nil=>.nil
 | _,_,.cons n t h=>.cons ⟨t,rfl⟩ (CN h)
def dJ (s:Stmt):Arguments:=match s with
 | .FunctionDef _ a _ _ _ _ _ _ _ _=>a
 | _=>{ posonlyargs:=[],args:=[],vararg:=none,kwonlyargs:=[],kw_defaults:=[],kwarg:=none,defaults:=[] }
def cA (s:Stmt):List Stmt:=match s with
 | .FunctionDef _ _ b _ _ _ _ _ _ _=>b
 | _=>[]
def aL (s:Stmt):Scope:=match s with
 | .FunctionDef _ _ _ _ _ _ sc _ _ _=>sc
 | _=>{ kind:=.function,names:=[],isGenerator:=false,isCoroutine:=false }
abbrev mB:zR:=fun _ _ _ _ _ _=>False
abbrev E0:XK:=fun _ _ _=>False
theorem AV {X:Cx}:Passes mB X E0:=fun _ _ _ _ _ _ _ h=>h.elim
structure cI (K:PySem.W.Frag) (x qual:Str) (st:Stmt) (f:Addr) (fd:FuncData):Prop where
 ex:∃ (oc:Value) (od:Option Addr) (kV doc pm:Value) (an:Option Addr) (cdv ct:Value) (osl:Array (Option Value)),
  fd=PySem.W.fnOf x qual (dJ st) (cA st) (aL st) .none kV doc pm an cdv ct/\K.lookup f=some ⟨oc,od,.func fd,osl⟩/\PySem.W.codeIn K cdv qual=true
 kp:PySem.W.keepIn K (.ref f)=true
section
variable {P:Program} {w:World} {K:PySem.W.Frag} {mg:Str->Option Value} {base:Heap}
variable {x qual:Str} {st:Stmt} {f:Addr} {fd:FuncData} {ps:List Str}
theorem cI.ok {N:List Str} {k:Nat} {sp:Sp} (F:cI K x qual st f fd) (S:aV N ps (aL st)) (len:∀ vs H Q E,sp vs H Q E->vs.length=ps.length)
  (hbody:∀ (cdv:Value) (A:Around) (outer:List Env) (s:Shared) (H:Hp) (vs:List V) (Q:VK) (E:XK),cV k (A.deeper (envOfC qual (aL st) s.heap.objs.size f cdv))->sp vs H Q E ->
   ∃ t,rB (BR mB P w K mg base N qual (aL st) f cdv A outer s H E).nox (cA st) t/\t { nx:=fun _ H'=>Q .non H',rt:=Q } (start N vs) H):fY P w K mg base mB (k + 1) f fd ps sp:=by
 obtain ⟨oc,od,kV,doc,pm,an,cdv,ct,osl,rfl,lk,hcd⟩:=F.ex;refine N6 lk hcd S len fun A outer s H vs Q E hr hsp=>?_;obtain ⟨t,h,q⟩:=hbody cdv A outer s H vs Q E hr hsp;exact ⟨t,h.nox,q⟩
theorem cI.binds (F:cI K x qual st f fd)
  (h:∀ (kV doc pm:Value) (an:Option Addr) (cdv ct:Value) (us:List Value),us.length=ps.length->bindArgs (PySem.W.fnOf x qual (dJ st) (cA st) (aL st) .none kV doc pm an cdv ct) ⟨us,[]⟩=pure (ps.zip us)):Binds K fd ps []:=by
 obtain ⟨oc,od,kV,doc,pm,an,cdv,ct,osl,rfl,lk,hcd⟩:=F.ex;exact .all (h kV doc pm an cdv ct)
theorem Ef {oc:Value} {od an:Option Addr} {osl:Array (Option Value)} {kV doc pm cdv ct:Value} (l:K.lookup f=some ⟨oc,od,.func (PySem.W.fnOf x qual (dJ st) (cA st) (aL st) .none kV doc pm an cdv ct),osl⟩)
  (c:PySem.W.codeIn K cdv qual=true) (k:PySem.W.keepIn K (.ref f)=true):cI K x qual st f (PySem.W.fnOf x qual (dJ st) (cA st) (aL st) .none kV doc pm an cdv ct):=⟨⟨oc,od,kV,doc,pm,an,cdv,ct,osl,rfl,l,c⟩,k⟩
end
theorem Og {A:Around} {k:Nat} (hr:cV k A):A.units + 1 < cLine:=Nat.lt_of_le_of_lt (Nat.add_le_add_left (by decide:1<=64) _) hr.units
section
variable {X:Cx}
end
theorem kP {c A B:Prop} [Decidable c] (h1:c->A) (h2:¬ c->B):if c then A else B:=by
 by_cases h:c
 ·rw [if_pos h]
  exact h1 h
 ·rw [if_neg h]
  exact h2 h
end L2
namespace U2
open PySem L2
inductive U where
 | non | bl (b:Bool) | int (i:Int) | str (x:Str) | tup (us:List U) | lst (us:List U) | ref (a:Addr) | ty (n:String) | dic (ks:List (List Key)) (tk:Bool) (us:List U)
inductive MO where
 | lst (us:List U) | dK (kvs:List (Key × U)) | dT (kvs:List (List Key × U)) | dN (kvs:List (PyData × U)) | ins (C dx:Addr) (fs:List (Str × U)) | tbl (q:Str) | cap (ps:Array Value) (vs:List V) (us:List U)
abbrev aG:=Addr->Option MO
def mup (M:aG) (a:Addr) (o:MO):aG:=fun b=>if b=a then some o else M b
variable {M:aG} {a:Addr} {o:MO}
theorem aD:mup M a o a=some o:=by unfold mup;rw [if_pos rfl]
variable {b:Addr}
theorem aF (h:b≠a):mup M a o b=M b:=by unfold mup;rw [if_neg h]
theorem aZ {u:MO}:mup (mup M a o) a u=mup M a u:=by
 funext b;unfold mup;split <;> rfl
def KL (K:PySem.W.Frag) (a:Addr) (xs:List V):Prop :=
 ∃ (o:Obj) (its:Array Value) (n:Nat),K.lookup a=some o/\o.cls=.type "list"/\o.dict=none/\o.data=.seq its n/\its.size<=sizeLine/\Vals xs its.toList
def Ay (H:Hp) (a:Addr) (ks:List (List Key)) (tk:Bool) (vs:List V):Prop:=match tk with
 | true=>∃ ws,Rd H a (.dT ws)/\ks=ws.map (·.1)/\vs=ws.map (·.2)
 | false=>∃ ws,Rd H a (.dK ws)/\ks=ws.map (fun p=>[p.1])/\vs=ws.map (·.2)
mutual
def aM (K:PySem.W.Frag) (H:Hp) (M:aG):U->V->Prop
 | .non,v=>v=.non
 | .bl b,v=>v=.bl b
 | .int i,v=>v=.int i
 | .str x,v=>v=.str x
 | .ty n,v=>v=.ty n
 | .ref a,v=>v=.ref a
 | .tup us,v=>∃ a vs,v=.ref a/\(M a=none/\H a=some (.tup vs))/\aI K H M us vs
 | .dic ks tk us,v=>∃ a vs,v=.ref a/\M a=none/\Ay H a ks tk vs/\aI K H M us vs
 | .lst us,v=>∃ a vs,v=.ref a/\((M a=none/\Rd H a (.lst vs))\/KL K a vs)/\aI K H M us vs
def aI (K:PySem.W.Frag) (H:Hp) (M:aG):List U->List V->Prop
 | [],vs=>vs=[]
 | u :: us,vs=>∃ v vs',vs=v :: vs'/\aM K H M u v/\aI K H M us vs'
end
def Rf:HO->Bool
 | .dK _=>true
 | .dT _=>true
 | _=>false
def aQ (H:Hp) (M:aG) (H1:Hp) (M1:aG):Prop:=∀ b o,H b=some o->M b=none->(H1 b=some o\/(Rf o=true/\∃ ob,H1 b=some (.frz ob o)))/\M1 b=none
variable {H H1:Hp} {M1:aG}
theorem aQ.by' (h:∀ b o,H b=some o->M b=none->H1 b=some o/\M1 b=none):aQ H M H1 M1:=fun b o e m=>⟨.inl (h b o e m).1,(h b o e m).2⟩
variable {o:HO}
theorem aQ.to (st:aQ H M H1 M1) (e:H b=some o) (m:M b=none) (n:Rf o=false:=by rfl):H1 b=some o/\M1 b=none:=by
 obtain ⟨h | ⟨h,_⟩,m1⟩:=st b o e m
 ·exact ⟨h,m1⟩
 ·rw [n] at h;cases h
theorem aQ.refl (H:Hp) (M:aG):aQ H M H M:=.by' fun _ _ h m=>⟨h,m⟩
theorem aQ.trans {H2:Hp} {M2:aG} (a:aQ H M H1 M1) (b:aQ H1 M1 H2 M2):aQ H M H2 M2:=fun c o h m=>by
 obtain ⟨h1 | ⟨d,ob,h1⟩,m1⟩:=a c o h m
 ·exact b c o h1 m1
 ·obtain ⟨h2,m2⟩:=b.to h1 m1
  exact ⟨.inr ⟨d,ob,h2⟩,m2⟩
theorem Rd.stp {u:HO} (st:aQ H M H1 M1) (m:M a=none) (h:Rd H a u):M1 a=none/\Rd H1 a u:=by
 rcases h with h | ⟨o,h⟩
 ·obtain ⟨x | ⟨_,ob,x⟩,y⟩:=st a _ h m
  ·exact ⟨y,.inl x⟩
  ·exact ⟨y,.inr ⟨ob,x⟩⟩
 ·obtain ⟨x,y⟩:=st.to h m;exact ⟨y,.inr ⟨o,x⟩⟩
theorem Ay.stp {H H1:Hp} {M M1:aG} {a:Addr} {ks:List (List Key)} {tk:Bool} {vs:List V} (st:aQ H M H1 M1) (m:M a=none) (h:Ay H a ks tk vs):M1 a=none/\Ay H1 a ks tk vs:=by
 cases tk with
 | true=>obtain ⟨ws,e,r⟩:=h;exact ⟨(Rd.stp st m e).1,ws,(Rd.stp st m e).2,r⟩
 | false=>obtain ⟨ws,e,r⟩:=h;exact ⟨(Rd.stp st m e).1,ws,(Rd.stp st m e).2,r⟩
mutual
theorem aM.stp {K:PySem.W.Frag} {H H1:Hp} {M M1:aG} (st:aQ H M H1 M1):∀ {u:U} {v:V},aM K H M u v->aM K H1 M1 u v
 | .non,_,h=>by simpa only [aM] using h
 | .bl _,_,h=>by simpa only [aM] using h
 | .int _,_,h=>by simpa only [aM] using h
 | .str _,_,h=>by simpa only [aM] using h
 | .ty _,_,h=>by simpa only [aM] using h
 | .ref _,_,h=>by simpa only [aM] using h
 | .tup us,_,h=>by
  simp only [aM] at h ⊢;obtain ⟨a,vs,e,h1,h2⟩:=h;refine ⟨a,vs,e,?_,aI.stp st h2⟩;obtain ⟨m,r⟩:=h1;exact ⟨(st.to r m).2,(st.to r m).1⟩
 | .dic ks tk us,_,h=>by
  simp only [aM] at h ⊢;obtain ⟨a,vs,e,m,h1,h2⟩:=h;have q:=Ay.stp st m h1;exact ⟨a,vs,e,q.1,q.2,aI.stp st h2⟩
 | .lst us,_,h=>by
  simp only [aM] at h ⊢;obtain ⟨a,vs,e,h1,h2⟩:=h;refine ⟨a,vs,e,?_,aI.stp st h2⟩
  rcases h1 with ⟨m,r⟩ | k
  ·exact .inl (Rd.stp st m r)
  ·exact .inr k
theorem aI.stp {K:PySem.W.Frag} {H H1:Hp} {M M1:aG} (st:aQ H M H1 M1):∀ {us:List U} {vs:List V},aI K H M us vs->aI K H1 M1 us vs
 | [],_,h=>by simpa only [aI] using h
 | u :: us,_,h=>by
  simp only [aI] at h ⊢;obtain ⟨v,vs',e,h1,h2⟩:=h;exact ⟨v,vs',e,aM.stp st h1,aI.stp st h2⟩
end
theorem aQ.less (h:∀ b,M b=none->M1 b=none):aQ H M H M1:=.by' fun b o e m=>⟨e,h b m⟩
def bI {κ:Type} (K:PySem.W.Frag) (H:Hp) (M:aG):List (κ × U)->List (κ × V)->Prop:=Paired fun p q=>p.1=q.1/\aM K H M p.2 q.2
theorem bI.stp {κ:Type} {K:PySem.W.Frag} {H H1:Hp} {M M1:aG} (st:aQ H M H1 M1):∀ {us:List (κ × U)} {vs:List (κ × V)},bI K H M us vs->bI K H1 M1 us vs
 | _,_,.nil=>.nil
 | _,_,.cons h t=>.cons ⟨h.1,h.2.stp st⟩ (bI.stp st t)
def AD (K:PySem.W.Frag) (H:Hp) (M:aG) (a:Addr):MO->Prop
 | .lst us=>∃ vs,H a=some (.lst vs)/\aI K H M us vs
 | .dK kvs=>∃ ws,H a=some (.dK ws)/\bI K H M kvs ws
 | .dT kvs=>∃ ws,H a=some (.dT ws)/\bI K H M kvs ws
 | .dN kvs=>∃ ws,H a=some (.dN ws)/\bI K H M kvs ws
 | .ins C dx kvs=>∃ ws,H a=some (.ins C dx ws)/\bI K H M kvs ws
 | .cap ps vs us=>H a=some (.tbl ps)/\aI K H M us vs
 | .tbl q=>(∀ b,M b=some (.tbl q)->b=a)/\∃ ps,H a=some (.tbl ps)/\TriplesOk ps.toList/\∀ pos c,codeAmong pos ps.toList=some c->∃ c' oc vs t,c=.ref c'/\H c'=some (.frz oc (.own 0))/\M c'=none/\oc.data=.fields vs/\vs[1]?=some (.str q t)
def RelM (K:PySem.W.Frag) (H:Hp) (M:aG):Prop:=∀ a mo,M a=some mo->AD K H M a mo
theorem AD.stp {K:PySem.W.Frag} {H H1:Hp} {M M1:aG} {a:Addr} {mo:MO} (hu:∀ b q,M1 b=some (.tbl q)->M b=some (.tbl q)) (st:aQ H M H1 M1) (e:H1 a=H a) (h:AD K H M a mo):AD K H1 M1 a mo:=by
 cases mo with
 | lst us=>obtain ⟨vs,x,y⟩:=h;exact ⟨vs,e.trans x,y.stp st⟩
 | dK us=>obtain ⟨vs,x,y⟩:=h;exact ⟨vs,e.trans x,y.stp st⟩
 | dT us=>obtain ⟨vs,x,y⟩:=h;exact ⟨vs,e.trans x,y.stp st⟩
 | dN us=>obtain ⟨vs,x,y⟩:=h;exact ⟨vs,e.trans x,y.stp st⟩
 | ins C dx us=>obtain ⟨vs,x,y⟩:=h;exact ⟨vs,e.trans x,y.stp st⟩
 | cap ps vs us=>exact ⟨e.trans h.1,h.2.stp st⟩
 | tbl q =>
  obtain ⟨un,ps,x,y,z⟩:=h;refine ⟨fun b hb=>un b (hu b q hb),ps,e.trans x,y,fun pos c hc=>?_⟩;obtain ⟨c',oc,vs,t,h1,h2,h3,h4⟩:=z pos c hc;exact ⟨c',oc,vs,t,h1,(st.to h2 h3).1,(st.to h2 h3).2,h4⟩
variable {K:PySem.W.Frag} {mo:MO}
theorem RelM.ex (r:RelM K H M) (h:M a=some mo):∃ o,H a=some o:=by
 have:=r a mo h
 cases mo with
 | lst us=>obtain ⟨vs,x,y⟩:=this;exact ⟨_,x⟩
 | dK us=>obtain ⟨vs,x,y⟩:=this;exact ⟨_,x⟩
 | dT us=>obtain ⟨vs,x,y⟩:=this;exact ⟨_,x⟩
 | dN us=>obtain ⟨vs,x,y⟩:=this;exact ⟨_,x⟩
 | ins C dx us=>obtain ⟨vs,x,y⟩:=this;exact ⟨_,x⟩
 | cap ps vs us=>exact ⟨_,this.1⟩
 | tbl q=>obtain ⟨_,ps,x,_⟩:=this;exact ⟨_,x⟩
theorem RelM.no (r:RelM K H M) (h:H a=none):M a=none:=by
 cases e:M a with
 | none=>rfl
 | some mo=>obtain ⟨o,q⟩:=r.ex e;rw [h] at q;cases q
variable {p:Addr}
theorem aQ.laid (r:RelM K H M) (h:H p=none):aQ H M (upd H p o) M:=.by' fun b u e m=>⟨by rw [bK (cM e h)];exact e,m⟩
theorem RelM.laid {K:PySem.W.Frag} {H:Hp} {M:aG} {p:Addr} {o:HO} (r:RelM K H M) (h:H p=none):RelM K (upd H p o) M:=fun a mo e=>by
 obtain ⟨u,q⟩:=r.ex e;exact (r a mo e).stp (fun _ _ z=>z) (aQ.laid r h) (bK (cM q h))
theorem aQ.own (r:RelM K H M) (h:H p=none):aQ H M (upd H p o) (mup M p mo):=.by' fun b u e m=>by
 have n:=cM e h;exact ⟨by rw [bK n];exact e,by rw [aF n];exact m⟩
theorem RelM.put (r:RelM K H M) (st:aQ H M (upd H p o) (mup M p mo)) (new:AD K (upd H p o) (mup M p mo) p mo) (hm:∀ q,mo≠.tbl q:=by intro q z;cases z):RelM K (upd H p o) (mup M p mo):=fun a m e=>by
 by_cases ha:a=p
 ·subst ha;rw [aD] at e;cases e;exact new
 ·rw [aF ha] at e
  refine (r a m e).stp (fun b q z=>?_) st (bK ha)
  by_cases hb:b=p
  ·subst hb;rw [aD] at z;exact absurd (Option.some.inj z) (hm q)
  ·rw [aF hb] at z;exact z
theorem aQ.write {m0:MO} (h:M p=some m0):aQ H M (upd H p o) (mup M p mo):=.by' fun b u e m=>by
 have n:b≠p:=fun z=>by subst z;rw [h] at m;cases m
 exact ⟨by rw [bK n];exact e,by rw [aF n];exact m⟩
section
variable {K:PySem.W.Frag} {H:Hp} {M:aG}
theorem aI.nil:aI K H M [] []:=by simp only [aI]
theorem aI.cons {u:U} {v:V} {us:List U} {vs:List V} (h:aM K H M u v) (t:aI K H M us vs):aI K H M (u :: us) (v :: vs):=by simp only [aI];exact ⟨v,vs,rfl,h,t⟩
theorem aI.length:∀ {us:List U} {vs:List V},aI K H M us vs->us.length=vs.length
 | [],_,h=>by simp only [aI] at h;subst h;rfl
 | u :: us,_,h=>by
  simp only [aI] at h;obtain ⟨v,vs',rfl,_,t⟩:=h
  simp [aI.length t]
variable {vs:List V}
theorem aI.inv_cons {u:U} {us:List U} (h:aI K H M (u :: us) vs):∃ v vs',vs=v :: vs'/\aM K H M u v/\aI K H M us vs':=by simpa only [aI] using h
theorem aI.inv_nil (h:aI K H M [] vs):vs=[]:=by simpa only [aI] using h
theorem aI.append:∀ {us ws:List U} {vs zs:List V},aI K H M us vs->aI K H M ws zs->aI K H M (us++ws) (vs++zs)
 | [],_,_,_,h,t=>by cases h.inv_nil;exact t
 | u :: us,_,_,_,h,t=>by
  obtain ⟨v,vs',rfl,a,b⟩:=h.inv_cons;exact .cons a (aI.append b t)
theorem aI.get:∀ {us:List U} {vs:List V} {i:Nat} {u:U},aI K H M us vs->us[i]?=some u->∃ v,vs[i]?=some v/\aM K H M u v
 | [],_,_,_,_,e=>by simp at e
 | u :: us,_,0,_,h,e=>by
  obtain ⟨v,vs',rfl,a,b⟩:=h.inv_cons
  simp at e;subst e;exact ⟨v,rfl,a⟩
 | u :: us,_,i + 1,_,h,e=>by
  obtain ⟨v,vs',rfl,a,b⟩:=h.inv_cons
  simp at e
  obtain ⟨w,x,y⟩:=aI.get b e;exact ⟨w,by simpa using x,y⟩
theorem aI.drop:∀ {us:List U} {vs:List V} (n:Nat),aI K H M us vs->aI K H M (us.drop n) (vs.drop n)
 | _,_,0,h=>h
 | [],_,_ + 1,h=>by cases h.inv_nil;exact .nil
 | u :: us,_,n + 1,h=>by
  obtain ⟨v,vs',rfl,a,b⟩:=h.inv_cons;exact aI.drop n b
theorem aI.take:∀ {us:List U} {vs:List V} (n:Nat),aI K H M us vs->aI K H M (us.take n) (vs.take n)
 | _,_,0,_=>by simp only [List.take_zero];exact .nil
 | [],_,_ + 1,h=>by cases h.inv_nil;exact .nil
 | u :: us,_,n + 1,h=>by
  obtain ⟨v,vs',rfl,a,b⟩:=h.inv_cons;exact .cons a (aI.take n b)
theorem aI.set {u:U} {v:V} (r:aM K H M u v):∀ {us:List U} {vs:List V} (i:Nat),aI K H M us vs->aI K H M (us.set i u) (vs.set i v)
 | [],_,_,h=>by cases h.inv_nil;exact .nil
 | w :: us,_,0,h=>by
  obtain ⟨z,vs',rfl,a,b⟩:=h.inv_cons;exact .cons r b
 | w :: us,_,i + 1,h=>by
  obtain ⟨z,vs',rfl,a,b⟩:=h.inv_cons;exact .cons a (aI.set r i b)
theorem aI.dropLast {us:List U} {vs:List V} (h:aI K H M us vs):aI K H M us.dropLast vs.dropLast:=by
 rw [List.dropLast_eq_take,List.dropLast_eq_take,h.length];exact h.take _
end
abbrev SU:=List (Option U)
abbrev UK:=U->aG->Prop
abbrev UE:=SU->aG->UK->Prop
abbrev UT:=SU->aG->(Bool->aG->Prop)->Prop
abbrev UA:=SU->aG->(List U->aG->Prop)->Prop
structure qE where
 nx:SU->aG->Prop
 rt:UK
 bk:SU->aG->Prop:=fun _ _=>False
 ct:SU->aG->Prop:=fun _ _=>False
abbrev US:=qE->SU->aG->Prop
def dU (K:PySem.W.Frag) (H:Hp) (M:aG) (σ:St) (τ:SU):Prop:=τ.length=σ.length/\∀ (i:Nat) u,τ[i]?=some (some u)->∃ v,σ[i]?=some (some v)/\aM K H M u v
theorem dU.stp {K:PySem.W.Frag} {H H1:Hp} {M M1:aG} {σ:St} {τ:SU} (st:aQ H M H1 M1) (r:dU K H M σ τ):dU K H1 M1 σ τ:=⟨r.1,fun i u e=>let ⟨v,a,b⟩:=r.2 i u e;⟨v,a,b.stp st⟩⟩
theorem dU.set {K:PySem.W.Frag} {H:Hp} {M:aG} {σ:St} {τ:SU} {i:Nat} {u:U} {v:V} (r:dU K H M σ τ) (h:aM K H M u v):dU K H M (σ.set i (some v)) (τ.set i (some u)):=by
 refine ⟨by simp [r.1],fun j w e=>?_⟩;rw [List.getElem?_set] at e ⊢;split at e
 ·rename_i hij
  subst hij;split at e
  ·rename_i hl
   cases e;rw [if_pos rfl,if_pos (by rw [<- r.1];exact hl)];exact ⟨v,rfl,h⟩
  ·cases e
 ·rename_i hij
  rw [if_neg hij];exact r.2 j w e
def bR (K:PySem.W.Frag) (t:TE) (t':UE):Prop:=∀ (σ:St) (τ:SU) (H:Hp) (M:aG) (Q':UK),dU K H M σ τ->RelM K H M->t' τ M Q' ->
 ∀ Q:VK,(∀ u v M1 H1,aQ H M H1 M1->RelM K H1 M1->aM K H1 M1 u v->Q' u M1->Q v H1)->t σ H Q
def kW (K:PySem.W.Frag) (t:TT) (t':UT):Prop:=∀ (σ:St) (τ:SU) (H:Hp) (M:aG) (Q':Bool->aG->Prop),dU K H M σ τ->RelM K H M->t' τ M Q' ->
 ∀ Q:Bool->Hp->Prop,(∀ b M1 H1,aQ H M H1 M1->RelM K H1 M1->Q' b M1->Q b H1)->t σ H Q
def lA (K:PySem.W.Frag) (t:TA) (t':UA):Prop:=∀ (σ:St) (τ:SU) (H:Hp) (M:aG) (Q':List U->aG->Prop),dU K H M σ τ->RelM K H M->t' τ M Q' ->
 ∀ Q:List V->Hp->Prop,(∀ us vs M1 H1,aQ H M H1 M1->RelM K H1 M1->aI K H1 M1 us vs->Q' us M1->Q vs H1)->t σ H Q
structure Ja (K:PySem.W.Frag) (H:Hp) (M:aG) (D:Ends) (D':qE):Prop where
 nx:∀ σ τ H1 M1,aQ H M H1 M1->RelM K H1 M1->dU K H1 M1 σ τ->D'.nx τ M1->D.nx σ H1
 rt:∀ u v H1 M1,aQ H M H1 M1->RelM K H1 M1->aM K H1 M1 u v->D'.rt u M1->D.rt v H1
 bk:∀ σ τ H1 M1,aQ H M H1 M1->RelM K H1 M1->dU K H1 M1 σ τ->D'.bk τ M1->D.bk σ H1
 ct:∀ σ τ H1 M1,aQ H M H1 M1->RelM K H1 M1->dU K H1 M1 σ τ->D'.ct τ M1->D.ct σ H1
theorem Ja.stp {D:Ends} {D':qE} (d:Ja K H M D D') (st:aQ H M H1 M1):Ja K H1 M1 D D' :=
 ⟨fun σ τ H2 M2 s=>d.nx σ τ H2 M2 (st.trans s),fun u v H2 M2 s=>d.rt u v H2 M2 (st.trans s),fun σ τ H2 M2 s=>d.bk σ τ H2 M2 (st.trans s),fun σ τ H2 M2 s=>d.ct σ τ H2 M2 (st.trans s)⟩
def k6 (K:PySem.W.Frag) (t:TS) (t':US):Prop:=∀ (σ:St) (τ:SU) (H:Hp) (M:aG) (D':qE),dU K H M σ τ->RelM K H M->t' D' τ M->∀ D:Ends,Ja K H M D D'->t D σ H
abbrev dY:=U->U->aG->UK->Prop
def c9 (K:PySem.W.Frag) (H:Hp) (M:aG) (Q':UK) (Q:VK):Prop:=∀ u v M1 H1,aQ H M H1 M1->RelM K H1 M1->aM K H1 M1 u v->Q' u M1->Q v H1
variable {Q':UK} {Q:VK}
theorem c9.stp (c:c9 K H M Q' Q) (st:aQ H M H1 M1):c9 K H1 M1 Q' Q:=fun u v M2 H2 s=>c u v M2 H2 (st.trans s)
variable {v:V}
theorem c9.here {u:U} (c:c9 K H M Q' Q) (rm:RelM K H M) (r:aM K H M u v) (q:Q' u M):Q v H:=c u v M H (aQ.refl H M) rm r q
def dG (K:PySem.W.Frag) (r:R2) (r':dY):Prop:=∀ (x y:V) (u w:U) (H:Hp) (M:aG) (Q':UK),RelM K H M->aM K H M u x->aM K H M w y->r' u w M Q'->∀ Q:VK,c9 K H M Q' Q->r x y H Q
def TM (K:PySem.W.Frag) (r:V->Hp->VK->Prop) (r':U->aG->UK->Prop):Prop:=∀ (x:V) (u:U) (H:Hp) (M:aG) (Q':UK),RelM K H M->aM K H M u x->r' u M Q'->∀ Q:VK,c9 K H M Q' Q->r x H Q
def yX (K:PySem.W.Frag) (r:List V->Hp->VK->Prop) (r':List U->aG->UK->Prop):Prop:=∀ (xs:List V) (us:List U) (H:Hp) (M:aG) (Q':UK),RelM K H M->aI K H M us xs->r' us M Q'->∀ Q:VK,c9 K H M Q' Q->r xs H Q
def sM (K:PySem.W.Frag) (r:V->List V->Hp->VK->Prop) (r':U->List U->aG->UK->Prop):Prop:=∀ (x:V) (xs:List V) (u:U) (us:List U) (H:Hp) (M:aG) (Q':UK),RelM K H M->aM K H M u x->aI K H M us xs->r' u us M Q'->∀ Q:VK,c9 K H M Q' Q->r x xs H Q
section
variable {K:PySem.W.Frag} {H:Hp} {M:aG} {v:V}
theorem aM.non (h:aM K H M .non v):v=.non:=by simpa only [aM] using h
theorem aM.bl {b:Bool} (h:aM K H M (.bl b) v):v=.bl b:=by simpa only [aM] using h
theorem aM.int {i:Int} (h:aM K H M (.int i) v):v=.int i:=by simpa only [aM] using h
theorem aM.str {x:Str} (h:aM K H M (.str x) v):v=.str x:=by simpa only [aM] using h
theorem aM.ty {n:String} (h:aM K H M (.ty n) v):v=.ty n:=by simpa only [aM] using h
theorem aM.ref {a:Addr} (h:aM K H M (.ref a) v):v=.ref a:=by simpa only [aM] using h
theorem aM.tup {us:List U} (h:aM K H M (.tup us) v):∃ a vs,v=.ref a/\fR K H a vs/\aI K H M us vs:=by
 simp only [aM] at h;obtain ⟨a,vs,e,h1,h2⟩:=h;refine ⟨a,vs,e,?_,h2⟩;exact .inl (.inl h1.2)
theorem aM.lst {us:List U} (h:aM K H M (.lst us) v):∃ a vs,v=.ref a/\eR K H a vs/\aI K H M us vs:=by
 simp only [aM] at h;obtain ⟨a,vs,e,h1,h2⟩:=h;refine ⟨a,vs,e,?_,h2⟩
 rcases h1 with ⟨_,r⟩ | k
 ·exact .inl r
 ·exact .inr k
theorem mL:aM K H M .non .non:=by simp only [aM]
theorem fQ {b:Bool}:aM K H M (.bl b) (.bl b):=by simp only [aM]
theorem c8 {i:Int}:aM K H M (.int i) (.int i):=by simp only [aM]
theorem mM {x:Str}:aM K H M (.str x) (.str x):=by simp only [aM]
variable {a:Addr}
theorem i6:aM K H M (.ref a) (.ref a):=by simp only [aM]
variable {us:List U} {vs:List V}
theorem zY (m:M a=none) (h:H a=some (.tup vs)) (r:aI K H M us vs):aM K H M (.tup us) (.ref a):=by
 simp only [aM];exact ⟨a,vs,rfl,⟨m,h⟩,r⟩
theorem u0 (m:M a=none) (h:H a=some (.lst vs)) (r:aI K H M us vs):aM K H M (.lst us) (.ref a):=by
 simp only [aM];exact ⟨a,vs,rfl,.inl ⟨m,.inl h⟩,r⟩
theorem c9.tup {Q':UK} {Q:VK} {us:List U} {vs:List V} {p:Addr} (c:c9 K H M Q' Q) (rm:RelM K H M) (r:aI K H M us vs) (hp:H p=none) (q:Q' (.tup us) M):Q (.ref p) (upd H p (.tup vs)) :=
 c _ _ M _ (aQ.laid rm hp) (rm.laid hp) (zY (rm.no hp) bY (r.stp (aQ.laid rm hp))) q
def i7 (o:Bool) (us:List U) (M:aG) (Q:UK):Prop:=match o with
 | true=>∀ p,M p=none->Q (.ref p) (mup M p (.lst us))
 | false=>Q (.lst us) M
theorem c9.lst {o:Bool} {Q':UK} {Q:VK} {us:List U} {vs:List V} {p:Addr} (c:c9 K H M Q' Q) (rm:RelM K H M) (r:aI K H M us vs) (hp:H p=none) (q:i7 o us M Q'):Q (.ref p) (upd H p (.lst vs)):=by
 cases o with
 | false=>exact c _ _ M _ (aQ.laid rm hp) (rm.laid hp) (u0 (rm.no hp) bY (r.stp (aQ.laid rm hp))) q
 | true =>
  have st:aQ H M (upd H p (.lst vs)) (mup M p (.lst us)):=aQ.own rm hp;exact c (.ref p) _ _ _ st (rm.put st ⟨vs,bY,r.stp st⟩) i6 (q p (rm.no hp))
end
def view (M:aG):U->U
 | .ref a=>match M a with
  | some (.lst us)=>.lst us
  | _=>.ref a
 | u=>u
variable {us:List U}
theorem bJ (h:M a=some (.lst us)):view M (.ref a)=.lst us:=by simp only [view,h]
theorem fG {u:U} (rm:RelM K H M) (r:aM K H M u v) (h:view M u=.lst us):∃ a vs,v=.ref a/\eR K H a vs/\aI K H M us vs:=by
 cases u with
 | lst ws=>simp only [view] at h;cases h;exact r.lst
 | ref a =>
  simp only [view] at h;split at h
  ·rename_i ws e
   cases h;obtain ⟨vs,h1,h2⟩:=rm a _ e;exact ⟨a,vs,r.ref,.inl (.inl h1),h2⟩
  ·cases h
 | _=>simp [view] at h
section
variable {K:PySem.W.Frag} {t ta tb tc:TE} {t' ta' tb' tc':UE}
def mW (i:Nat):UE:=fun τ M Q=>match τ[i]? with
 | some (some u)=>Q u M
 | _=>False
theorem F1 (i:Nat):bR K (Mw i) (mW i):=fun σ τ H M Q' rs rm h Q c=>by
 unfold mW at h;split at h
 ·rename_i u e
  obtain ⟨v,e2,r⟩:=rs.2 i u e;exact ⟨v,e2,c u v M H (aQ.refl _ _) rm r h⟩
 ·exact h.elim
def uC (u:U):UE:=fun _ M Q=>Q u M
theorem AR {u:U} {v:V} (h:∀ H M,aM K H M u v):bR K (tC v) (uC u):=fun σ τ H M Q' rs rm q Q c=>c u v M H (aQ.refl _ _) rm (h H M) q
theorem GI {i:Int}:bR K (tC (.int i)) (uC (.int i)):=AR fun _ _=>c8
theorem S4 {i:Bool}:bR K (tC (.bl i)) (uC (.bl i)):=AR fun _ _=>fQ
theorem OZ {i:Str}:bR K (tC (.str i)) (uC (.str i)):=AR fun _ _=>mM
theorem QM:bR K (tC .non) (uC .non):=AR fun _ _=>mL
theorem Qt {a:Addr}:bR K (tC (.ref a)) (uC (.ref a)):=AR fun _ _=>i6
def l9 (r:dY) (ta tb:UE):UE:=fun τ M Q=>ta τ M fun x M1=>tb τ M1 fun y M2=>r x y M2 Q
variable {r:R2}
theorem tY {r':dY} (hr:dG K r r') (ha:bR K ta ta') (hb:bR K tb tb'):bR K (E4 r ta tb) (l9 r' ta' tb'):=fun σ τ H M Q' rs rm h Q c =>
 ha σ τ H M _ rs rm h _ fun u v M1 H1 s1 rm1 ru h1=>hb σ τ H1 M1 _ (rs.stp s1) rm1 h1 _ fun w x M2 H2 s2 rm2 rw h2=>hr v x u w H2 M2 Q' rm2 (ru.stp s2) rw h2 Q (c9.stp c (s1.trans s2))
def Ci (r:U->aG->UK->Prop) (ta:UE):UE:=fun τ M Q=>ta τ M fun x M1=>r x M1 Q
theorem RW {r:V->Hp->VK->Prop} {r':U->aG->UK->Prop} (hr:TM K r r') (ha:bR K ta ta'):bR K (UB r ta) (Ci r' ta'):=fun σ τ H M Q' rs rm h Q c =>
 ha σ τ H M _ rs rm h _ fun u v M1 H1 s1 rm1 ru h1=>hr v u H1 M1 Q' rm1 ru h1 Q (c9.stp c s1)
def qA (t:UE):UT:=fun τ M Q=>t τ M fun u M1=>match u with
 | .bl b=>Q b M1
 | _=>False
theorem Lw (h:bR K t t'):kW K (OM t) (qA t'):=fun σ τ H M Q' rs rm q Q c=>h σ τ H M _ rs rm q _ fun u v M1 H1 s1 rm1 ru h1=>by
 cases u with
 | bl b=>exact ⟨b,ru.bl,c b M1 H1 s1 rm1 h1⟩
 | _=>exact h1.elim
def xB (t:UE):UT:=fun τ M Q=>t τ M fun u M1=>match view M1 u with
 | .non=>Q false M1
 | .bl b=>Q b M1
 | .int i=>Q (i != 0) M1
 | .str x=>x.length<=sizeLine/\Q ((x.length:Int) != 0) M1
 | .tup us=>Q (!us.isEmpty) M1
 | .lst us=>Q (!us.isEmpty) M1
 | _=>False
theorem zS {H:Hp} {M:aG} {us:List U} {vs:List V} (r:aI K H M us vs):us.isEmpty=vs.isEmpty:=by
 have:=r.length
 cases us <;> cases vs <;> simp_all
theorem QH (h:bR K t t'):kW K (fun σ H Q=>t σ H fun x H'=>∃ k,MV K x H' k/\Q k H') (xB t'):=fun σ τ H M Q' rs rm q Q c=>h σ τ H M _ rs rm q _ fun u v M1 H1 s1 rm1 ru h1=>by
 split at h1
 ·rename_i e
  cases u with
  | non=>exact ⟨false,by rw [ru.non];rfl,c _ M1 H1 s1 rm1 h1⟩
  | ref a=>simp only [view] at e;split at e <;> cases e
  | _=>simp [view] at e
 ·rename_i b e
  cases u with
  | bl b'=>simp only [view] at e;cases e;exact ⟨b,by rw [ru.bl];rfl,c _ M1 H1 s1 rm1 h1⟩
  | ref a=>simp only [view] at e;split at e <;> cases e
  | _=>simp [view] at e
 ·rename_i b e
  cases u with
  | int b'=>simp only [view] at e;cases e;exact ⟨b != 0,by rw [ru.int];rfl,c _ M1 H1 s1 rm1 h1⟩
  | ref a=>simp only [view] at e;split at e <;> cases e
  | _=>simp [view] at e
 ·rename_i b e
  cases u with
  | str b'=>simp only [view] at e;cases e;exact ⟨(b.length:Int) != 0,by rw [ru.str];exact ⟨h1.1,rfl⟩,c _ M1 H1 s1 rm1 h1.2⟩
  | ref a=>simp only [view] at e;split at e <;> cases e
  | _=>simp [view] at e
 ·rename_i us e
  cases u with
  | tup us' =>
   simp only [view] at e;cases e;obtain ⟨a,vs,rfl,r1,r2⟩:=ru.tup;exact ⟨!vs.isEmpty,.inr (.inl ⟨vs,r1,rfl⟩),c _ M1 H1 s1 rm1 (by rw [<- zS r2];exact h1)⟩
  | ref a=>simp only [view] at e;split at e <;> cases e
  | _=>simp [view] at e
 ·rename_i us e
  obtain ⟨a,vs,rfl,r1,r2⟩:=fG rm1 ru e;exact ⟨!vs.isEmpty,.inl ⟨vs,r1,rfl⟩,c _ M1 H1 s1 rm1 (by rw [<- zS r2];exact h1)⟩
 ·exact h1.elim
def xU (t u:UT):UT:=fun τ M Q=>t τ M fun c M1=>if c=true then u τ M1 Q else Q false M1
def Cg (t u:UT):UT:=fun τ M Q=>t τ M fun c M1=>if c=true then Q true M1 else u τ M1 Q
def xR (t:UT):UT:=fun τ M Q=>t τ M fun c M1=>Q (!c) M1
variable {u':UT}
theorem OP {t u:TT} {t':UT} (h:kW K t t') (k:kW K u u'):kW K (Sr t u) (xU t' u'):=fun σ τ H M Q' rs rm q Q c=>h σ τ H M _ rs rm q _ fun b M1 H1 s1 rm1 h1=>by
 cases b with
 | true=>exact k σ τ H1 M1 Q' (rs.stp s1) rm1 h1 Q fun b M2 H2 s2=>c b M2 H2 (s1.trans s2)
 | false=>exact c _ M1 H1 s1 rm1 h1
theorem RD {t u:TT} {t':UT} (h:kW K t t') (k:kW K u u'):kW K (UM t u) (Cg t' u'):=fun σ τ H M Q' rs rm q Q c=>h σ τ H M _ rs rm q _ fun b M1 H1 s1 rm1 h1=>by
 cases b with
 | false=>exact k σ τ H1 M1 Q' (rs.stp s1) rm1 h1 Q fun b M2 H2 s2=>c b M2 H2 (s1.trans s2)
 | true=>exact c _ M1 H1 s1 rm1 h1
theorem Pz {t:TT} {t':UT} (h:kW K t t'):kW K (Sg t) (xR t'):=fun σ τ H M Q' rs rm q Q c=>h σ τ H M _ rs rm q _ fun b M1 H1 s1 rm1 h1=>c _ M1 H1 s1 rm1 h1
def rZ (ta tb:UE):UE:=fun τ M Q=>ta τ M fun x M1=>match x with
 | .bl c=>if c=true then tb τ M1 Q else Q (.bl false) M1
 | _=>False
def Cc (ta tb:UE):UE:=fun τ M Q=>ta τ M fun x M1=>match x with
 | .bl c=>if c=true then Q (.bl true) M1 else tb τ M1 Q
 | _=>False
def zC (ta:UE):UE:=fun τ M Q=>ta τ M fun x M1=>match x with
 | .bl c=>Q (.bl (!c)) M1
 | _=>False
theorem MF (h:bR K ta ta') (k:bR K tb tb'):bR K (Oq ta tb) (rZ ta' tb'):=fun σ τ H M Q' rs rm q Q c=>h σ τ H M _ rs rm q _ fun u v M1 H1 s1 rm1 ru h1=>by
 cases u with
 | bl b =>
  refine ⟨b,ru.bl,?_⟩
  cases b with
  | true=>exact k σ τ H1 M1 Q' (rs.stp s1) rm1 h1 Q (c9.stp c s1)
  | false=>exact c _ _ M1 H1 s1 rm1 fQ h1
 | _=>exact h1.elim
def CH (t:UT) (ta tb:UE):UE:=fun τ M Q=>t τ M fun c M1=>if c=true then ta τ M1 Q else tb τ M1 Q
theorem S9 {t:TT} {t':UT} (h:kW K t t') (k:bR K ta ta') (l:bR K tb tb'):bR K (UQ t ta tb) (CH t' ta' tb'):=fun σ τ H M Q' rs rm q Q c=>h σ τ H M _ rs rm q _ fun b M1 H1 s1 rm1 h1=>by
 cases b with
 | true=>exact k σ τ H1 M1 Q' (rs.stp s1) rm1 h1 Q (c9.stp c s1)
 | false=>exact l σ τ H1 M1 Q' (rs.stp s1) rm1 h1 Q (c9.stp c s1)
def o7 (r r':dY) (ta tb tc:UE):UE:=fun τ M Q=>ta τ M fun x M1=>tb τ M1 fun y M2=>r x y M2 fun z M3=>match z with
 | .bl k=>if k=true then tc τ M3 fun w M4=>r' y w M4 Q else Q (.bl false) M3
 | _=>False
theorem K1 {r':R2} {s s':dY} (hr:dG K r s) (hr':dG K r' s') (ha:bR K ta ta') (hb:bR K tb tb') (hc:bR K tc tc'):bR K (J0 r r' ta tb tc) (o7 s s' ta' tb' tc'):=fun σ τ H M Q' rs rm h Q c =>
 ha σ τ H M _ rs rm h _ fun u v M1 H1 s1 rm1 ru h1=>hb σ τ H1 M1 _ (rs.stp s1) rm1 h1 _ fun w x M2 H2 s2 rm2 rw h2 =>
  hr v x u w H2 M2 _ rm2 (ru.stp s2) rw h2 _ fun z zv M3 H3 s3 rm3 rz h3=>by
   cases z with
   | bl k =>
    refine ⟨k,rz.bl,?_⟩
    cases k with
    | true=>exact hc σ τ H3 M3 _ ((rs.stp s1).stp (s2.trans s3)) rm3 h3 _ fun w2 x2 M4 H4 s4 rm4 rw4 h4=>hr' x x2 w w2 H4 M4 Q' rm4 (rw.stp (s3.trans s4)) rw4 h4 Q (c9.stp c (((s1.trans s2).trans s3).trans s4))
    | false=>exact c _ _ M3 H3 ((s1.trans s2).trans s3) rm3 fQ h3
   | _=>exact h3.elim
def sU:UA:=fun _ M Q=>Q [] M
def mE (ta:UE) (tr:UA):UA:=fun τ M Q=>ta τ M fun x M1=>tr τ M1 fun xs M2=>Q (x :: xs) M2
theorem Pj:lA K Ra sU:=fun σ τ H M Q' rs rm q Q c=>c [] [] M H (aQ.refl _ _) rm .nil q
theorem Nc {tr:TA} {tr':UA} (ha:bR K ta ta') (hr:lA K tr tr'):lA K (OC ta tr) (mE ta' tr'):=fun σ τ H M Q' rs rm h Q c =>
 ha σ τ H M _ rs rm h _ fun u v M1 H1 s1 rm1 ru h1=>hr σ τ H1 M1 _ (rs.stp s1) rm1 h1 _ fun us vs M2 H2 s2 rm2 rus h2=>c (u :: us) (v :: vs) M2 H2 (s1.trans s2) rm2 (.cons (ru.stp s2) rus) h2
def xG (t:UA):UE:=fun τ M Q=>t τ M fun us M1=>us.length<=sizeLine/\Q (.tup us) M1
def wB (o:Bool) (t:UA):UE:=fun τ M Q=>t τ M fun us M1=>us.length<=sizeLine/\i7 o us M1 Q
theorem PQ {t:TA} {t':UA} (h:lA K t t'):bR K (Tp t) (xG t'):=fun σ τ H M Q' rs rm q Q c =>
 h σ τ H M _ rs rm q _ fun us vs M1 H1 s1 rm1 r h1=>⟨by rw [<- r.length];exact h1.1,fun p hp=>(c9.stp c s1).tup rm1 r hp h1.2⟩
theorem P0 {o:Bool} {t:TA} {t':UA} (h:lA K t t'):bR K (Tn t) (wB o t'):=fun σ τ H M Q' rs rm q Q c =>
 h σ τ H M _ rs rm q _ fun us vs M1 H1 s1 rm1 r h1=>⟨by rw [<- r.length];exact h1.1,fun p hp=>(c9.stp c s1).lst rm1 r hp h1.2⟩
def As (r:List U->aG->UK->Prop) (t:UA):UE:=fun τ M Q=>t τ M fun us M1=>r us M1 Q
theorem J7 {r:List V->Hp->VK->Prop} {r':List U->aG->UK->Prop} {t:TA} {t':UA} (hr:yX K r r') (h:lA K t t'):bR K (SJ r t) (As r' t'):=fun σ τ H M Q' rs rm q Q c =>
 h σ τ H M _ rs rm q _ fun us vs M1 H1 s1 rm1 ru h1=>hr vs us H1 M1 Q' rm1 ru h1 Q (c9.stp c s1)
end
section
variable {K:PySem.W.Frag}
def sN (g:Int->Int->U):dY:=fun x y M Q=>match x,y with
 | .int i,.int j=>Q (g i j) M
 | _,_=>False
def uI (C:Int->Int->Prop) (g:Int->Int->U):dY:=fun x y M Q=>match x,y with
 | .int i,.int j=>C i j/\Q (g i j) M
 | _,_=>False
variable {g:Int->Int->V} {g':Int->Int->U}
theorem Ke (hg:∀ H M i j,aM K H M (g' i j) (g i j)):dG K (vW g) (sN g'):=fun x y u w H M Q' rm ru rw h Q c=>by
 cases u with
 | int i=>cases w with
  | int j=>exact ⟨i,j,ru.int,rw.int,c _ _ M H (aQ.refl _ _) rm (hg H M i j) h⟩
  | _=>exact h.elim
 | _=>exact h.elim
variable {C:Int->Int->Prop}
theorem TF (hg:∀ H M i j,aM K H M (g' i j) (g i j)):dG K (rI C g) (uI C g'):=fun x y u w H M Q' rm ru rw h Q c=>by
 cases u with
 | int i=>cases w with
  | int j=>exact ⟨i,j,ru.int,rw.int,h.1,c _ _ M H (aQ.refl _ _) rm (hg H M i j) h.2⟩
  | _=>exact h.elim
 | _=>exact h.elim
variable {f:Int->Int->Int}
theorem Em:dG K (vW fun i j=>.int (f i j)) (sN fun i j=>.int (f i j)):=Ke fun _ _ _ _=>c8
theorem pD {f:Int->Int->Bool}:dG K (vW fun i j=>.bl (f i j)) (sN fun i j=>.bl (f i j)):=Ke fun _ _ _ _=>fQ
theorem sI:dG K (rI C fun i j=>.int (f i j)) (uI C fun i j=>.int (f i j)):=TF fun _ _ _ _=>c8
def Uh:dY:=fun x y M Q=>match x,y with
 | .str i,.str j=>i.length + j.length<=sizeLine/\Q (.str (i++j)) M
 | _,_=>False
theorem NQ:dG K (fun x y H Q=>∃ i j,x=.str i/\y=.str j/\i.length + j.length<=sizeLine/\Q (.str (i++j)) H) Uh:=fun x y u w H M Q' rm ru rw h Q c=>by
 cases u with
 | str i=>cases w with
  | str j=>exact ⟨i,j,ru.str,rw.str,h.1,c _ _ M H (aQ.refl _ _) rm mM h.2⟩
  | _=>exact h.elim
 | _=>exact h.elim
def Ew (K:PySem.W.Frag):R2:=fun x y H Q=>∃ a b xs ys,x=.ref a/\y=.ref b/\fR K H a xs/\fR K H b ys/\xs.length + ys.length<=sizeLine /\
 (xs=[]->Q (.ref b) H)/\(xs≠[]->ys=[]->Q (.ref a) H)/\(xs≠[]->ys≠[]->∀ p,H p=none->Q (.ref p) (upd H p (.tup (xs++ys))))
def Ue:dY:=fun x y M Q=>match x,y with
 | .tup us,.tup ws=>us.length + ws.length<=sizeLine/\Q (.tup (us++ws)) M
 | _,_=>False
theorem Mg:dG K (Ew K) Ue:=fun x y u w H M Q' rm ru rw h Q c=>by
 cases u with
 | tup us=>cases w with
  | tup ws =>
   obtain ⟨h2,h3⟩:=h;obtain ⟨a,xs,rfl,s1,r1⟩:=ru.tup;obtain ⟨b,ys,rfl,s2,r2⟩:=rw.tup;refine ⟨a,b,xs,ys,rfl,rfl,s1,s2,by rw [<- r1.length,<- r2.length];exact h2,fun e=>?_,fun _ e=>?_,fun _ _ p hp=>c.tup rm (r1.append r2) hp h3⟩
   ·subst e
    have e2:us=[]:=List.length_eq_zero_iff.mp r1.length;subst e2;exact c _ _ M H (aQ.refl _ _) rm rw h3
   ·subst e
    have e2:ws=[]:=List.length_eq_zero_iff.mp r2.length;subst e2;exact c _ _ M H (aQ.refl _ _) rm ru (by rw [List.append_nil] at h3;exact h3)
  | _=>exact h.elim
 | _=>exact h.elim
def qB (o:Bool):dY:=fun x y M Q=>match view M x,view M y with
 | .lst us,.lst ws=>us.length + ws.length<=sizeLine/\i7 o (us++ws) M Q
 | _,_=>False
def IX (K:PySem.W.Frag):R2:=fun x y H Q=>∃ l b xs zs,x=.ref l/\y=.ref b/\eR K H l xs/\eR K H b zs/\xs.length + zs.length<=sizeLine/\∀ p,H p=none->Q (.ref p) (upd H p (.lst (xs++zs)))
theorem LO {o:Bool}:dG K (IX K) (qB o):=fun x y u w H M Q' rm ru rw h Q c=>by
 unfold qB at h;split at h
 ·rename_i us ws e1 e2
  obtain ⟨a,xs,rfl,s1,r1⟩:=fG rm ru e1;obtain ⟨b,ys,rfl,s2,r2⟩:=fG rm rw e2;exact ⟨a,b,xs,ys,rfl,rfl,s1,s2,by rw [<- r1.length,<- r2.length];exact h.1,fun p hp=>c.lst rm (r1.append r2) hp h.2⟩
 ·exact h.elim
variable {H:Hp} {M:aG} {us:List U} {vs:List V}
theorem GF {i:Int} {u:U} (r:aI K H M us vs) (h:dH us i=some u):∃ v,dH vs i=some v/\aM K H M u v:=by
 unfold dH at h ⊢;rw [<- r.length]
 cases e:rH us.length i with
 | none=>rw [e] at h;cases h
 | some j=>rw [e] at h;exact r.get h
def Ax:dY:=fun x y M Q=>match view M x,y with
 | .lst us,.int i=>∃ u,dH us i=some u/\Q u M
 | .tup us,.int i=>∃ u,dH us i=some u/\Q u M
 | .str z,.int i=>z.length<=sizeLine/\∃ c,dH z.cps.toList i=some c/\Q (.str ⟨#[c]⟩) M
 | _,_=>False
theorem rJ {u:U} (h:view M u=.tup us):u=.tup us:=by
 cases u with
 | ref a=>simp only [view] at h;split at h <;> cases h
 | _=>simpa [view] using h
theorem Ac {u:U} {x:Str} (h:view M u=.str x):u=.str x:=by
 cases u with
 | ref a=>simp only [view] at h;split at h <;> cases h
 | _=>simpa [view] using h
theorem S5:dG K (Ux K) Ax:=fun x y u w H M Q' rm ru rw h Q c=>by
 unfold Ax at h;split at h
 ·rename_i us i e
  obtain ⟨z,h1,h2⟩:=h;obtain ⟨a,xs,rfl,s1,r1⟩:=fG rm ru e;obtain ⟨v,h3,h4⟩:=GF r1 h1;exact .inl ⟨a,xs,i,v,rfl,rw.int,s1,h3,c _ _ M H (aQ.refl _ _) rm h4 h2⟩
 ·rename_i us i e
  obtain ⟨z,h1,h2⟩:=h;have e':=rJ e;subst e';obtain ⟨a,xs,rfl,s1,r1⟩:=ru.tup;obtain ⟨v,h3,h4⟩:=GF r1 h1;exact .inr (.inl ⟨a,xs,i,v,rfl,rw.int,s1,h3,c _ _ M H (aQ.refl _ _) rm h4 h2⟩)
 ·rename_i z i e
  obtain ⟨h0,d,h1,h2⟩:=h;have e':=Ac e;subst e';exact .inr (.inr ⟨z,i,d,ru.str,rw.int,h0,h1,c _ _ M H (aQ.refl _ _) rm mM h2⟩)
 ·exact h.elim
abbrev UO:=SU->aG->(Option Int->aG->Prop)->Prop
def DN (K:PySem.W.Frag) (t:TO) (t':UO):Prop:=∀ (σ:St) (τ:SU) (H:Hp) (M:aG) (Q':Option Int->aG->Prop),dU K H M σ τ->RelM K H M->t' τ M Q' ->
 ∀ Q:Option Int->Hp->Prop,(∀ o M1 H1,aQ H M H1 M1->RelM K H1 M1->Q' o M1->Q o H1)->t σ H Q
def mS:UO:=fun _ M Q=>Q none M
def sF (t:UE):UO:=fun τ M Q=>t τ M fun x M1=>match x with
 | .int i=>Q (some i) M1
 | _=>False
theorem HD:DN K Gq mS:=fun σ τ H M Q' rs rm q Q c=>c none M H (aQ.refl _ _) rm q
theorem NT {t:TE} {t':UE} (h:bR K t t'):DN K (Oc t) (sF t'):=fun σ τ H M Q' rs rm q Q c=>h σ τ H M _ rs rm q _ fun u v M1 H1 s1 rm1 ru h1=>by
 cases u with
 | int i=>exact ⟨i,ru.int,c _ M1 H1 s1 rm1 h1⟩
 | _=>exact h1.elim
def jT {α:Type} (xs:List α) (lo hi:Option Int):List α:=(xs.drop (HT.bM xs.length 0 lo)).take (HT.bM xs.length xs.length hi - HT.bM xs.length 0 lo)
theorem GL (r:aI K H M us vs) (lo hi:Option Int):aI K H M (jT us lo hi) (sR vs lo hi):=by
 unfold jT sR;rw [r.length];exact (r.drop _).take _
def SW (K:PySem.W.Frag):V->Option Int->Option Int->Hp->VK->Prop:=fun x lo hi H Q =>
 (∃ a xs,x=.ref a/\eR K H a xs/\∀ p,H p=none->Q (.ref p) (upd H p (.lst (sR xs lo hi)))) \/
 (∃ a xs,x=.ref a/\fR K H a xs/\¬ (HT.bM xs.length 0 lo=0/\HT.bM xs.length xs.length hi=xs.length)/\∀ p,H p=none->Q (.ref p) (upd H p (.tup (sR xs lo hi)))) \/
 (∃ z:Str,x=.str z/\z.length<=sizeLine/\Q (.str (Txt.slice z lo hi)) H)
def VS (o:Bool) (te:UE) (tl th:UO):UE:=fun τ M Q=>te τ M fun x M1=>tl τ M1 fun l M2=>th τ M2 fun h M3=>match view M3 x with
 | .lst us=>i7 o (jT us l h) M3 Q
 | .tup us=>¬ (HT.bM us.length 0 l=0/\HT.bM us.length us.length h=us.length)/\Q (.tup (jT us l h)) M3
 | .str z=>z.length<=sizeLine/\Q (.str (Txt.slice z l h)) M3
 | _=>False
end
section
variable {K:PySem.W.Frag} {t u:TS} {t' u':US} {te:TE} {te':UE}
def cE:US:=fun D τ M=>D.nx τ M
def zV (t u:US):US:=fun D τ M=>t { D with nx:=u D } τ M
def Bj:US:=fun D τ M=>D.bk τ M
def Dr:US:=fun D τ M=>D.ct τ M
def eK (te:UE):US:=fun D τ M=>te τ M fun _ M1=>D.nx τ M1
def bU (te:UE):US:=fun D τ M=>te τ M D.rt
def Dv:US:=fun D _ M=>D.rt .non M
def wF (c:UT) (t u:US):US:=fun D τ M=>c τ M fun b M1=>if b=true then t D τ M1 else u D τ M1
theorem LG:k6 K Ow cE:=fun σ τ H M D' rs rm h D d=>d.nx σ τ H M (aQ.refl _ _) rm rs h
theorem QN (h1:k6 K t t') (h2:k6 K u u'):k6 K (S0 t u) (zV t' u'):=fun σ τ H M D' rs rm h D d =>
 h1 σ τ H M _ rs rm h _ ⟨fun σ1 τ1 H1 M1 s rm1 rs1 q=>h2 σ1 τ1 H1 M1 D' rs1 rm1 q D (d.stp s),d.rt,d.bk,d.ct⟩
theorem Nv (h1:bR K te te'):k6 K (Oi te) (eK te'):=fun σ τ H M D' rs rm h D d=>h1 σ τ H M _ rs rm h _ fun u v M1 H1 s rm1 ru q=>d.nx σ τ H1 M1 s rm1 (rs.stp s) q
theorem OV (h1:bR K te te'):k6 K (Ri te) (bU te'):=fun σ τ H M D' rs rm h D d=>h1 σ τ H M _ rs rm h _ fun u v M1 H1 s rm1 ru q=>d.rt u v H1 M1 s rm1 ru q
variable {c:TT} {c':UT}
theorem QJ (hc:kW K c c') (h1:k6 K t t') (h2:k6 K u u'):k6 K (Rc c t u) (wF c' t' u'):=fun σ τ H M D' rs rm h D d=>hc σ τ H M _ rs rm h _ fun b M1 H1 s rm1 q=>by
 cases b with
 | true=>exact h1 σ τ H1 M1 D' (rs.stp s) rm1 q D (d.stp s)
 | false=>exact h2 σ τ H1 M1 D' (rs.stp s) rm1 q D (d.stp s)
abbrev UG:=U->SU->aG->(SU->aG->Prop)->Prop
abbrev Am:=List U->SU->aG->(SU->aG->Prop)->Prop
def Ab (K:PySem.W.Frag) (g:TG) (g':UG):Prop:=∀ (u:U) (v:V) (σ:St) (τ:SU) (H:Hp) (M:aG) (Q':SU->aG->Prop),aM K H M u v->dU K H M σ τ->RelM K H M->g' u τ M Q' ->
 ∀ Q:St->Hp->Prop,(∀ σ1 τ1 H1 M1,aQ H M H1 M1->RelM K H1 M1->dU K H1 M1 σ1 τ1->Q' τ1 M1->Q σ1 H1)->g v σ H Q
def AZ (K:PySem.W.Frag) (g:qY) (g':Am):Prop:=∀ (us:List U) (vs:List V) (σ:St) (τ:SU) (H:Hp) (M:aG) (Q':SU->aG->Prop),aI K H M us vs->dU K H M σ τ->RelM K H M->g' us τ M Q' ->
 ∀ Q:St->Hp->Prop,(∀ σ1 τ1 H1 M1,aQ H M H1 M1->RelM K H1 M1->dU K H1 M1 σ1 τ1->Q' τ1 M1->Q σ1 H1)->g vs σ H Q
def hName (i:Nat):UG:=fun u τ M Q=>Q (τ.set i (some u)) M
theorem xJ (i:Nat):Ab K (vD i) (hName i):=fun u v σ τ H M Q' ru rs rm h Q c=>c _ _ H M (aQ.refl _ _) rm (rs.set ru) h
def mN:Am:=fun us τ M Q=>match us with
 | []=>Q τ M
 | _=>False
def j5 (g:UG) (r:Am):Am:=fun us τ M Q=>match us with
 | u :: us=>g u τ M fun τ1 M1=>r us τ1 M1 Q
 | _=>False
theorem LI:AZ K EA mN:=fun us vs σ τ H M Q' ru rs rm h Q c=>by
 cases us with
 | nil=>exact ⟨ru.inv_nil,c σ τ H M (aQ.refl _ _) rm rs h⟩
 | cons _ _=>exact h.elim
variable {g:TG} {g':UG} {r:qY} {r':Am}
theorem KI (h1:Ab K g g') (h2:AZ K r r'):AZ K (A1 g r) (j5 g' r'):=fun us vs σ τ H M Q' ru rs rm h Q c=>by
 cases us with
 | nil=>exact h.elim
 | cons u us =>
  obtain ⟨v,vs',rfl,a,b⟩:=ru.inv_cons;exact ⟨v,vs',rfl,h1 u v σ τ H M _ a rs rm h _ fun σ1 τ1 H1 M1 s rm1 rs1 q=>h2 us vs' σ1 τ1 H1 M1 Q' (b.stp s) rs1 rm1 q Q fun σ2 τ2 H2 M2 s2=>c σ2 τ2 H2 M2 (s.trans s2)⟩
def kO (n:Nat) (r:Am):UG:=fun u τ M Q=>match u with
 | .tup us=>us.length=n/\r us τ M Q
 | _=>False
theorem LD {n:Nat} (h2:AZ K r r'):Ab K (DV K n r) (kO n r'):=fun u v σ τ H M Q' ru rs rm h Q c=>by
 cases u with
 | tup us =>
  obtain ⟨a,vs,rfl,s1,r1⟩:=ru.tup;exact ⟨a,vs,rfl,s1,by rw [<- r1.length];exact h.1,h2 us vs σ τ H M Q' r1 rs rm h.2 Q c⟩
 | _=>exact h.elim
def aY (te:UE) (g:UG):US:=fun D τ M=>te τ M fun x M1=>g x τ M1 D.nx
theorem GG (h1:bR K te te') (h2:Ab K g g'):k6 K (Il te g) (aY te' g'):=fun σ τ H M D' rs rm h D d =>
 h1 σ τ H M _ rs rm h _ fun u v M1 H1 s rm1 ru q=>h2 u v σ τ H1 M1 _ ru (rs.stp s) rm1 q _ fun σ1 τ1 H2 M2 s2 rm2 rs2 q2=>d.nx σ1 τ1 H2 M2 (s.trans s2) rm2 rs2 q2
def Fg (c:UT) (tb:US):US:=fun D τ M=>∃ (P:SU->aG->Prop) (μ:SU->aG->Nat),P τ M/\∀ τ M,P τ M->c τ M fun b M1=>if b=true then tb { D with nx:=fun τ' M'=>P τ' M'/\μ τ' M' < μ τ M,ct:=fun τ' M'=>P τ' M'/\μ τ' M' < μ τ M,bk:=D.nx } τ M1 else D.nx τ M1
theorem Kp (hc:kW K c c') (h1:k6 K t t'):k6 K (J4 c t) (Fg c' t'):=fun σ τ H M D' rs rm h D d=>by
 obtain ⟨P,μ,p0,turn⟩:=h;refine ⟨fun m σ1 H1=>∃ τ1 M1,aQ H M H1 M1/\RelM K H1 M1/\dU K H1 M1 σ1 τ1/\P τ1 M1/\m=μ τ1 M1,⟨_,τ,M,aQ.refl _ _,rm,rs,p0,rfl⟩,?_⟩;rintro m σ1 H1 ⟨τ1,M1,s1,rm1,rs1,p1,rfl⟩;refine hc σ1 τ1 H1 M1 _ rs1 rm1 (turn τ1 M1 p1) _ fun b M2 H2 s2 rm2 q=>?_
 cases b with
 | true =>
  refine ⟨fun σ3 H3=>∃ τ3 M3,aQ H M H3 M3/\RelM K H3 M3/\dU K H3 M3 σ3 τ3/\P τ3 M3/\μ τ3 M3 < μ τ1 M1,?_,?_⟩
  ·rintro σ3 H3 ⟨τ3,M3,s3,rm3,rs3,p3,lt⟩
   exact ⟨_,lt,τ3,M3,s3,rm3,rs3,p3,rfl⟩
  ·have d2:=d.stp (s1.trans s2)
   exact h1 σ1 τ1 H2 M2 _ (rs1.stp s2) rm2 q _ ⟨fun σ3 τ3 H3 M3 s3 rm3 rs3 q3=>⟨τ3,M3,(s1.trans s2).trans s3,rm3,rs3,q3.1,q3.2⟩,d2.rt,d2.nx,fun σ3 τ3 H3 M3 s3 rm3 rs3 q3=>⟨τ3,M3,(s1.trans s2).trans s3,rm3,rs3,q3.1,q3.2⟩⟩
 | false=>exact d.nx σ1 τ1 H2 M2 (s1.trans s2) rm2 (rs1.stp s2) q
structure Src where
 own:Option Addr
 xs:List U
def Src.ok (S:Src) (M:aG):Prop:=∀ a,S.own=some a->M a=some (.lst S.xs)
structure Walk (K:PySem.W.Frag) (J:It) (S:Src) (H:Hp) (M:aG):Prop where
 step:∀ H1 M1,aQ H M H1 M1->RelM K H1 M1->S.ok M1->∀ (i:Nat) u,S.xs[i]?=some u->J.go i H1/\∀ x H2,J.yld i H1 x H2->aQ H1 M1 H2 M1/\RelM K H2 M1/\aM K H2 M1 u x
 stop:∀ H1 M1,aQ H M H1 M1->RelM K H1 M1->S.ok M1->J.stop S.xs.length H1
abbrev UI:=SU->aG->(Src->aG->Prop)->Prop
def sV (K:PySem.W.Frag) (t:TI) (t':UI):Prop:=∀ (σ:St) (τ:SU) (H:Hp) (M:aG) (R':Src->aG->Prop),dU K H M σ τ->RelM K H M->t' τ M R' ->
 ∀ R:It->Hp->Prop,(∀ J S M1 H1,aQ H M H1 M1->RelM K H1 M1->Walk K J S H1 M1->R' S M1->R J H1)->t σ H R
def LZ (wi:UI) (g:UG) (tb:US):US:=fun D τ M=>wi τ M fun S M1=>∃ P:Nat->SU->aG->Prop,P 0 τ M1/\(∀ i τ M,P i τ M->S.ok M) /\
 (∀ i x τ M,S.xs[i]?=some x->P i τ M->g x τ M fun τ2 M2=>tb { D with nx:=P (i + 1),ct:=P (i + 1),bk:=D.nx } τ2 M2)/\∀ τ M,P S.xs.length τ M->D.nx τ M
theorem PF {wi:TI} {wi':UI} (hi:sV K wi wi') (hg:Ab K g g') (h1:k6 K t t'):k6 K (SS wi g t) (LZ wi' g' t'):=fun σ τ H M D' rs rm h D d=>by
 refine hi σ τ H M _ rs rm h _ fun J S M0 H0 s0 rm0 w h=>?_;obtain ⟨P,p0,hok,turn,fin⟩:=h;refine ⟨fun i m σ1 H1=>∃ τ1 M1,aQ H0 M0 H1 M1/\RelM K H1 M1/\dU K H1 M1 σ1 τ1/\P i τ1 M1/\i<=S.xs.length/\m=S.xs.length - i,⟨_,τ,M0,aQ.refl _ _,rm0,rs.stp s0,p0,Nat.zero_le _,rfl⟩,?_⟩;rintro i m σ1 H1 ⟨τ1,M1,s1,rm1,rs1,p1,hle,rfl⟩;have ok1:=hok i τ1 M1 p1
 by_cases hlt:i < S.xs.length
 ·obtain ⟨go,yl⟩:=w.step H1 M1 s1 rm1 ok1 i S.xs[i] (by simp [hlt])
  refine .inr ⟨go,fun σ3 H3=>∃ τ3 M3,aQ H0 M0 H3 M3/\RelM K H3 M3/\dU K H3 M3 σ3 τ3/\P (i + 1) τ3 M3,?_,fun x H2 y=>?_⟩
  ·rintro σ3 H3 ⟨τ3,M3,s3,rm3,rs3,p3⟩
   exact ⟨S.xs.length - (i + 1),by omega,τ3,M3,s3,rm3,rs3,p3,hlt,rfl⟩
  ·obtain ⟨s2,rm2,ru⟩:=yl x H2 y
   refine hg _ x σ1 τ1 H2 M1 _ ru (rs1.stp s2) rm2 (turn i S.xs[i] τ1 M1 (by simp [hlt]) p1) _ fun σ3 τ3 H3 M3 s3 rm3 rs3 q3=>?_;have d3:=d.stp (((s0.trans s1).trans s2).trans s3);exact h1 σ3 τ3 H3 M3 _ rs3 rm3 q3 _ ⟨fun σ4 τ4 H4 M4 s4 rm4 rs4 q4=>⟨τ4,M4,((s1.trans s2).trans s3).trans s4,rm4,rs4,q4⟩,d3.rt,d3.nx,fun σ4 τ4 H4 M4 s4 rm4 rs4 q4=>⟨τ4,M4,((s1.trans s2).trans s3).trans s4,rm4,rs4,q4⟩⟩
 ·have e:i=S.xs.length:=by omega
  subst e;exact .inl ⟨w.stop H1 M1 s1 rm1 ok1,d.nx σ1 τ1 H1 M1 (s0.trans s1) rm1 rs1 (fin τ1 M1 p1)⟩
end
section
variable {K:PySem.W.Frag}
variable {a:Addr} {us:List U} {vs:List V} {H:Hp} {M:aG}
theorem Kx (m:(M a=none/\Rd H a (.lst vs))\/KL K a vs) (r:aI K H M us vs):Walk K (OD K a) ⟨none,us⟩ H M:=by
 have sq:∀ H1 M1,aQ H M H1 M1->eR K H1 a vs:=fun H1 M1 s=>by
  rcases m with ⟨m,h⟩ | k
  ·exact .inl (Rd.stp s m h).2
  ·exact .inr k
 refine ⟨fun H1 M1 s rm _ i u e=>?_,fun H1 M1 s rm _=>⟨vs,sq H1 M1 s,by rw [r.length];exact Nat.le_refl _⟩⟩;obtain ⟨v,e2,ru⟩:=r.get e;refine ⟨⟨vs,v,sq H1 M1 s,e2⟩,fun x H2 y=>?_⟩;obtain ⟨rfl,y⟩:=y
 have:=y vs (sq _ M1 s)
 rw [e2] at this;cases this;exact ⟨aQ.refl _ _,rm,ru.stp s⟩
theorem NB (m:M a=none/\H a=some (.tup vs)) (r:aI K H M us vs):Walk K (RS K a) ⟨none,us⟩ H M:=by
 have sq:∀ H1 M1,aQ H M H1 M1->fR K H1 a vs:=fun H1 M1 s=>by
  exact .inl (.inl (s.to m.2 m.1).1)
 refine ⟨fun H1 M1 s rm _ i u e=>?_,fun H1 M1 s rm _=>⟨vs,sq H1 M1 s,by rw [r.length];exact Nat.le_refl _⟩⟩;obtain ⟨v,e2,ru⟩:=r.get e;refine ⟨⟨vs,v,sq H1 M1 s,e2⟩,fun x H2 y=>?_⟩;obtain ⟨rfl,y⟩:=y
 have:=y vs (sq _ M1 s)
 rw [e2] at this;cases this;exact ⟨aQ.refl _ _,rm,ru.stp s⟩
theorem Mv:Walk K (OD K a) ⟨some a,us⟩ H M:=by
 refine ⟨fun H1 M1 s rm ok i u e=>?_,fun H1 M1 s rm ok=>?_⟩
 ·obtain ⟨vs,h1,r⟩:=rm a _ (ok a rfl)
  obtain ⟨v,e2,ru⟩:=r.get e;refine ⟨⟨vs,v,.inl (.inl h1),e2⟩,fun x H2 y=>?_⟩;obtain ⟨rfl,y⟩:=y
  have:=y vs (.inl (.inl h1))
  rw [e2] at this;cases this;exact ⟨aQ.refl _ _,rm,ru⟩
 ·obtain ⟨vs,h1,r⟩:=rm a _ (ok a rfl)
  exact ⟨vs,.inl (.inl h1),by rw [r.length];exact Nat.le_refl _⟩
def Rj (z:Str):It:=⟨fun i _=>i < z.cps.size,fun i H x H'=>H'=H/\∃ c,z.cps[i]?=some c/\x=.str ⟨#[c]⟩,fun i _=>i=z.cps.size⟩
def chars (z:Str):List U:=z.cps.toList.map fun c=>.str ⟨#[c]⟩
theorem Ms {z:Str}:Walk K (Rj z) ⟨none,chars z⟩ H M:=by
 refine ⟨fun H1 M1 s rm _ i u e=>?_,fun H1 M1 s rm _=>?_⟩
 ·have hi:i < z.cps.size:=by
   have:=(List.getElem?_eq_some_iff.mp e).1
   simpa [chars] using this
  refine ⟨hi,fun x H2 y=>?_⟩;obtain ⟨rfl,c,h1,rfl⟩:=y
  have:u=.str ⟨#[c]⟩:=by
   simp only [chars,List.getElem?_map,Array.getElem?_toList,h1,Option.map_some] at e;exact (Option.some.inj e).symm
  subst this;exact ⟨aQ.refl _ _,rm,mM⟩
 ·show (chars z).length=z.cps.size
  simp [chars]
def Q8 (K:PySem.W.Frag) (tl:TE):TI:=fun σ H R=>tl σ H fun x H1 =>
 (∃ a,x=.ref a/\(∃ xs,eR K H1 a xs)/\R (OD K a) H1)\/(∃ a,x=.ref a/\(∃ xs,fR K H1 a xs)/\R (RS K a) H1)\/(∃ z,x=.str z/\R (Rj z) H1)
def p8 (te:UE):UI:=fun τ M R=>te τ M fun u M1=>match u with
 | .lst us=>R ⟨none,us⟩ M1
 | .tup us=>R ⟨none,us⟩ M1
 | .str z=>R ⟨none,chars z⟩ M1
 | .ref a=>match M1 a with
  | some (.lst us)=>R ⟨some a,us⟩ M1
  | _=>False
 | _=>False
theorem Nf {te:TE} {te':UE} (h:bR K te te'):sV K (Q8 K te) (p8 te'):=fun σ τ H M R' rs rm q R c=>h σ τ H M _ rs rm q _ fun u v M1 H1 s1 rm1 ru h1=>by
 cases u with
 | lst us =>
  simp only [aM] at ru;obtain ⟨a,vs,rfl,m,r⟩:=ru;refine .inl ⟨a,rfl,⟨vs,?_⟩,c _ _ M1 H1 s1 rm1 (Kx m r) h1⟩
  rcases m with ⟨_,m⟩ | k
  ·exact .inl m
  ·exact .inr k
 | tup us =>
  simp only [aM] at ru;obtain ⟨a,vs,rfl,m,r⟩:=ru;refine .inr (.inl ⟨a,rfl,⟨vs,?_⟩,c _ _ M1 H1 s1 rm1 (NB m r) h1⟩);exact .inl (.inl m.2)
 | str z=>exact .inr (.inr ⟨z,ru.str,c _ _ M1 H1 s1 rm1 Ms h1⟩)
 | ref a =>
  dsimp only at h1;split at h1
  ·rename_i us e
   obtain ⟨vs,h2,r⟩:=rm1 a _ e;exact .inl ⟨a,ru.ref,⟨vs,.inl (.inl h2)⟩,c _ _ M1 H1 s1 rm1 Mv h1⟩
  ·exact h1.elim
 | _=>exact h1.elim
def dO (lo:Int) (n:Nat):List U:=(List.range n).map fun (k:Nat)=>U.int (lo + (k:Int))
theorem HB {lo:Int} {n:Nat}:Walk K (Ol lo n) ⟨none,dO lo n⟩ H M:=by
 refine ⟨fun H1 M1 s rm _ i u e=>?_,fun H1 M1 s rm _=>?_⟩
 ·have hi:i < n:=by
   have:=(List.getElem?_eq_some_iff.mp e).1
   simpa [dO] using this
  refine ⟨hi,fun x H2 y=>?_⟩;obtain ⟨rfl,rfl⟩:=y
  have:u=.int (lo + i):=by
   simp only [dO,List.getElem?_map,List.getElem?_range hi,Option.map_some] at e;exact (Option.some.inj e).symm
  subst this;exact ⟨aQ.refl _ _,rm,c8⟩
 ·show n<=(dO lo n).length
  simp [dO]
def sL (ta:UA):UI:=fun τ M R=>ta τ M fun us M1=>match us with
 | [.int j]=>-(2 ^ 62)<=j/\j < 2 ^ 62/\R ⟨none,dO 0 j.toNat⟩ M1
 | _=>False
def yC (ta:UA):UI:=fun τ M R=>ta τ M fun us M1=>match us with
 | [.int i,.int j]=>(-(2 ^ 62)<=i/\i < 2 ^ 62/\-(2 ^ 62)<=j/\j < 2 ^ 62)/\R ⟨none,dO i (j - i).toNat⟩ M1
 | _=>False
theorem NW {ta:TA} {ta':UA} (h:lA K ta ta'):sV K (ON ta) (sL ta'):=fun σ τ H M R' rs rm q R c=>h σ τ H M _ rs rm q _ fun us vs M1 H1 s1 rm1 ru h1=>by
 split at h1
 ·rename_i j
  obtain ⟨v,vs',rfl,a,b⟩:=ru.inv_cons;cases b.inv_nil;cases a.int;exact ⟨j,rfl,h1.1,h1.2.1,c _ _ M1 H1 s1 rm1 HB h1.2.2⟩
 ·exact h1.elim
abbrev bE:=List U->aG->UK->Prop
def cP (K:PySem.W.Frag) (sp:bE):Sp:=fun vs H Q _=>∃ us M Q',RelM K H M/\aI K H M us vs/\sp us M Q'/\c9 K H M Q' Q
def oW (sp:bE) (dus:List U) (t:UA):UE:=fun τ M Q=>t τ M fun us M1=>sp (us++dus) M1 Q
variable {t':UA}
theorem MX {sp:bE} {dus:List U} {dvs:List V} {E:XK} {t:TA} (hd:∀ H M,aI K H M dus dvs) (h:lA K t t'):bR K (Jd (cP K sp) dvs E t) (oW sp dus t'):=fun σ τ H M Q' rs rm q Q c =>
 h σ τ H M _ rs rm q _ fun us vs M1 H1 s1 rm1 ru h1=>⟨us++dus,M1,Q',rm1,ru.append (hd _ _),h1,c9.stp c s1⟩
def Sub (M' M1:aG):Prop:=∀ b mo,M' b=some mo->M1 b=some mo
theorem Sub.refl (M:aG):Sub M M:=fun _ _ h=>h
theorem Sub.mup {M M1:aG} {p:Addr} {o:MO} (h:Sub M M1) (hp:M p=none):Sub M (mup M1 p o):=fun b mo e=>by
 have:b≠p:=fun z=>by subst z;rw [hp] at e;cases e
 rw [aF this];exact h b mo e
theorem Sub.less {M M1:aG} (h:Sub M M1) {H:Hp}:aQ H M1 H M:=aQ.less fun b e=>by
 cases q:M b with
 | none=>rfl
 | some mo=>rw [h b mo q] at e;cases e
variable {M1:aG}
theorem RelM.sub (rm:RelM K H M1) (h:Sub M M1):RelM K H M:=fun a mo e=>(rm a mo (h a mo e)).stp (fun b q z=>h b _ z) (h.less) rfl
def Out (M1 M':aG) (u u':U):Prop:=u'=u\/∃ a us,u=.ref a/\M1 a=some (.lst us)/\M' a=none/\u'=.lst us
def kF (Q:UK):UK:=fun u M1=>∃ u' M',Sub M' M1/\Out M1 M' u u'/\Q u' M'
variable {v:V}
theorem kF.ok {H1:Hp} {Q':UK} {Q:VK} {u:U} (c:c9 K H M Q' Q) (s:aQ H M H1 M1) (rm:RelM K H1 M1) (ru:aM K H1 M1 u v) (h:kF Q' u M1):Q v H1:=by
 obtain ⟨u',M',sb,o,q⟩:=h;have s':aQ H1 M1 H1 M':=sb.less;refine c u' v M' H1 (s.trans s') (rm.sub sb) ?_ q
 rcases o with rfl | ⟨a,us,rfl,h1,h2,rfl⟩
 ·exact ru.stp s'
 ·obtain ⟨vs,h3,h4⟩:=rm a _ h1
  cases ru.ref;exact u0 h2 h3 (h4.stp s')
def dW (N:List Str) (us:List U):SU:=us.map some++List.replicate (N.length - us.length) none
def KS (M:aG) (x:U):Prop:=∃ us,view M x=.lst us
def zQ (r:U->List U->aG->UK->Prop) (to:UE) (t:UA):UE:=fun τ M Q=>to τ M fun x M1=>KS M1 x/\t τ M1 fun xs M2=>r x xs M2 Q
def wY (r:U->List U->aG->UK->Prop) (to:UE):UE:=fun τ M Q=>to τ M fun x M1=>KS M1 x/\r x [] M1 Q
theorem KS.ty {u:U} (rm:RelM K H M) (ru:aM K H M u v) (h:KS M u):N8 K "list" v H:=by
 obtain ⟨us,h⟩:=h;obtain ⟨a,vs,rfl,s,_⟩:=fG rm ru h;exact .inl ⟨rfl,vs,s⟩
variable {r:V->List V->Hp->VK->Prop} {r':U->List U->aG->UK->Prop} {to':UE}
theorem EH {to:TE} {t:TA} (hr:sM K r r') (ho:bR K to to') (h:lA K t t') :
  bR K (UU K "list" r to t) (zQ r' to' t'):=fun σ τ H M Q' rs rm q Q c =>
 ho σ τ H M _ rs rm q _ fun u v M1 H1 s1 rm1 ru h1=>⟨h1.1.ty rm1 ru,h σ τ H1 M1 _ (rs.stp s1) rm1 h1.2 _ fun us vs M2 H2 s2 rm2 rus h2=>hr v vs u us H2 M2 Q' rm2 (ru.stp s2) rus h2 Q (c9.stp c (s1.trans s2))⟩
theorem Qv {to:TE} (hr:sM K r r') (ho:bR K to to') :
  bR K (RT K "list" r to) (wY r' to'):=fun σ τ H M Q' rs rm q Q c =>
 ho σ τ H M _ rs rm q _ fun u v M1 H1 s1 rm1 ru h1=>⟨h1.1.ty rm1 ru,hr v [] u [] H1 M1 Q' rm1 ru .nil h1.2 Q (c9.stp c s1)⟩
theorem c9.write {H:Hp} {M:aG} {Q':UK} {Q:VK} {a:Addr} {us us':List U} {xs':List V} {r:U} {v:V} (c:c9 K H M Q' Q) (rm:RelM K H M) (e:M a=some (.lst us)) (r1:aI K H M us' xs') (r2:aM K H M r v) (q:Q' r (mup M a (.lst us'))):Q v (upd H a (.lst xs')):=by
 have st:aQ H M (upd H a (.lst xs')) (mup M a (.lst us')):=aQ.write e;exact c _ _ _ _ st (rm.put st ⟨xs',bY,r1.stp st⟩) (r2.stp st) q
def lO:U->List U->aG->UK->Prop:=fun x ws M Q=>match x,ws with
 | .ref a,[w]=>match M a with
  | some (.lst us)=>us.length < sizeLine/\Q .non (mup M a (.lst (us++[w])))
  | _=>False
 | _,_=>False
theorem Hw:sM K Gw lO:=fun x xs u us H M Q' rm ru rus h Q c=>by
 unfold lO at h;split at h
 ·rename_i a w
  split at h
  ·rename_i ws e
   obtain ⟨vs,h1,r⟩:=rm a _ e;obtain ⟨v,vs',rfl,a1,b⟩:=rus.inv_cons;cases b.inv_nil;cases ru.ref;exact ⟨a,vs,v,rfl,rfl,h1,by rw [<- r.length];exact h.1,c.write rm e (r.append (.cons a1 .nil)) mL h.2⟩
  ·exact h.elim
 ·exact h.elim
def vS:U->List U->aG->UK->Prop:=fun x ws M Q=>match x,ws with
 | .ref a,[]=>match M a with
  | some (.lst us)=>match us.getLast? with
   | some w=>Q w (mup M a (.lst us.dropLast))
   | none=>False
  | _=>False
 | _,_=>False
theorem Qj:sM K Sl vS:=fun x xs u us H M Q' rm ru rus h Q c=>by
 unfold vS at h;split at h
 ·rename_i a
  split at h
  ·rename_i ws e
   split at h
   ·rename_i w e2
    obtain ⟨vs,h1,r⟩:=rm a _ e;cases rus.inv_nil;cases ru.ref;rw [List.getLast?_eq_getElem?] at e2;obtain ⟨v,h3,h4⟩:=r.get e2;exact ⟨a,vs,v,rfl,rfl,h1,by rw [<- r.length];exact h3,c.write rm e r.dropLast h4 h⟩
   ·exact h.elim
  ·exact h.elim
 ·exact h.elim
def Er (K:PySem.W.Frag):V->List V->Hp->VK->Prop:=fun x vs H Q=>∃ l b xs zs,x=.ref l/\vs=[.ref b]/\H l=some (.lst xs)/\eR K H b zs/\xs.length + zs.length<=sizeLine/\Q .non (upd H l (.lst (xs++zs)))
def lJ:U->List U->aG->UK->Prop:=fun x ws M Q=>match x,ws with
 | .ref a,[w]=>match M a,view M w with
  | some (.lst us),.lst zs=>us.length + zs.length<=sizeLine/\Q .non (mup M a (.lst (us++zs)))
  | _,_=>False
 | _,_=>False
theorem Hz:sM K (Er K) lJ:=fun x xs u us H M Q' rm ru rus h Q c=>by
 unfold lJ at h;split at h
 ·rename_i a w
  split at h
  ·rename_i ws zs e e2
   obtain ⟨vs,h1,r⟩:=rm a _ e;obtain ⟨v,vs',rfl,a1,b⟩:=rus.inv_cons;cases b.inv_nil;cases ru.ref;obtain ⟨b,zvs,rfl,s2,r2⟩:=fG rm a1 e2;exact ⟨a,b,vs,zvs,rfl,rfl,h1,s2,by rw [<- r.length,<- r2.length];exact h.1,c.write rm e (r.append r2) mL h.2⟩
  ·exact h.elim
 ·exact h.elim
def uK:U->List U->aG->UK->Prop:=fun x ws M Q=>match x,ws with
 | .ref a,[]=>match M a with
  | some (.lst us)=>Q .non (mup M a (.lst []))
  | _=>False
 | _,_=>False
def vO:List U->aG->UK->Prop:=fun us M Q=>match us with
 | [x]=>match view M x with
  | .lst ws=>Q (.int ws.length) M
  | .tup ws=>Q (.int ws.length) M
  | .str z=>z.length<=sizeLine/\Q (.int z.length) M
  | _=>False
 | _=>False
theorem O8:yX K (fun xs H Q=>∃ x n,xs=[x]/\Su K x H n/\Q (.int n) H) vO:=fun xs us H M Q' rm rus h Q c=>by
 unfold vO at h;split at h
 ·rename_i x
  obtain ⟨v,vs',rfl,a1,b⟩:=rus.inv_cons;cases b.inv_nil;split at h
  ·rename_i ws e
   obtain ⟨b,zvs,rfl,s2,r2⟩:=fG rm a1 e;exact ⟨_,zvs.length,rfl,.inl ⟨zvs,s2,rfl⟩,c.here rm c8 (by rw [<- r2.length];exact h)⟩
  ·rename_i ws e
   have e':=rJ e;subst e';obtain ⟨b,zvs,rfl,s2,r2⟩:=a1.tup;exact ⟨_,zvs.length,rfl,.inr ⟨zvs,s2,rfl⟩,c.here rm c8 (by rw [<- r2.length];exact h)⟩
  ·rename_i z e
   have e':=Ac e;subst e';cases a1.str;exact ⟨_,z.length,rfl,⟨h.1,rfl⟩,c.here rm c8 h.2⟩
  ·exact h.elim
 ·exact h.elim
def yV (C:Int->Prop) (g:Int->U):List U->aG->UK->Prop:=fun us M Q=>match us with
 | [.int i]=>C i/\Q (g i) M
 | _=>False
def qI (g:Int->Int->U):List U->aG->UK->Prop:=fun us M Q=>match us with
 | [.int i,.int j]=>Q (g i j) M
 | _=>False
theorem aI.one {u:U} (h:aI K H M [u] vs):∃ v,vs=[v]/\aM K H M u v:=by
 obtain ⟨v,vs',rfl,a1,b⟩:=h.inv_cons;cases b.inv_nil;exact ⟨v,rfl,a1⟩
variable {w:U}
theorem aI.two {u:U} (h:aI K H M [u,w] vs):∃ v z,vs=[v,z]/\aM K H M u v/\aM K H M w z:=by
 obtain ⟨v,vs',rfl,a1,b⟩:=h.inv_cons;obtain ⟨z,rfl,b1⟩:=b.one;exact ⟨v,z,rfl,a1,b1⟩
theorem Lr:yX K (fun xs H Q=>∃ i j,xs=[.int i,.int j]/\Q (.int (if j < i then j else i)) H) (qI fun i j=>.int (if j < i then j else i)):=fun xs us H M Q' rm rus h Q c=>by
 unfold qI at h;split at h
 ·rename_i i j
  obtain ⟨v,z,rfl,a,b⟩:=rus.two;cases a.int;cases b.int;exact ⟨i,j,rfl,c.here rm c8 h⟩
 ·exact h.elim
def qF (o:Bool):List U->aG->UK->Prop:=fun us M Q=>match us with
 | [x]=>match view M x with
  | .lst ws=>i7 o ws M Q
  | .tup ws=>i7 o ws M Q
  | _=>False
 | _=>False
def mZ:List U->aG->UK->Prop:=fun us M Q=>match us with
 | [x]=>match view M x with
  | .lst ws=>Q (.tup ws) M
  | .tup ws=>Q (.tup ws) M
  | _=>False
 | _=>False
theorem NY {o:Bool}:yX K (fun xs H Q=>∃ p ys,xs=[.ref p]/\(eR K H p ys\/fR K H p ys)/\∀ l,H l=none->Q (.ref l) (upd H l (.lst ys))) (qF o):=fun xs us H M Q' rm rus h Q c=>by
 unfold qF at h;split at h
 ·rename_i x
  obtain ⟨v,rfl,a1⟩:=rus.one;split at h
  ·rename_i ws e
   obtain ⟨b,zvs,rfl,s2,r2⟩:=fG rm a1 e;exact ⟨b,zvs,rfl,.inl s2,fun l hl=>c.lst rm r2 hl h⟩
  ·rename_i ws e
   have e':=rJ e;subst e';obtain ⟨b,zvs,rfl,s2,r2⟩:=a1.tup;exact ⟨b,zvs,rfl,.inr s2,fun l hl=>c.lst rm r2 hl h⟩
  ·exact h.elim
 ·exact h.elim
theorem JO:yX K (fun xs H Q=>∃ p ys,xs=[.ref p]/\((eR K H p ys/\∀ l,H l=none->Q (.ref l) (upd H l (.tup ys)))\/(fR K H p ys/\Q (.ref p) H))) mZ:=fun xs us H M Q' rm rus h Q c=>by
 unfold mZ at h;split at h
 ·rename_i x
  obtain ⟨v,rfl,a1⟩:=rus.one;split at h
  ·rename_i ws e
   obtain ⟨b,zvs,rfl,s2,r2⟩:=fG rm a1 e;exact ⟨b,zvs,rfl,.inl ⟨s2,fun l hl=>c.tup rm r2 hl h⟩⟩
  ·rename_i ws e
   have e':=rJ e;subst e';have a2:=a1;obtain ⟨b,zvs,rfl,s2,r2⟩:=a1.tup;exact ⟨b,zvs,rfl,.inr ⟨s2,c.here rm a2 h⟩⟩
  ·exact h.elim
 ·exact h.elim
def zU (M:aG) (x:U):Option String:=match x with
 | .non=>some "NoneType"
 | .bl _=>some "bool"
 | .int _=>some "int"
 | .str _=>some "str"
 | .tup _=>some "tuple"
 | .lst _=>some "list"
 | .ref a=>match M a with
  | some (.lst _)=>some "list"
  | some (.dK _)=>some "dict"
  | some (.dT _)=>some "dict"
  | _=>none
 | .dic _ _ _=>some "dict"
 | .ty _=>none
def J8:U->U->Option Bool
 | .non,.non=>some true
 | .non,.int _=>some false | .int _,.non=>some false | .non,.bl _=>some false | .bl _,.non=>some false | .non,.str _=>some false | .str _,.non=>some false
 | .int i,.int j=>some (decide (i=j))
 | .bl i,.bl j=>some (decide (i=j))
 | .str i,.str j=>some (decide (i=j))
 | .int _,.str _=>some false | .str _,.int _=>some false | .bl _,.str _=>some false | .str _,.bl _=>some false
 | _,_=>none
def By:dY:=fun x y M Q=>match J8 x y with
 | some b=>Q (.bl b) M
 | none=>False
def BB:dY:=fun x y M Q=>match J8 x y with
 | some b=>Q (.bl (!b)) M
 | none=>False
variable {x:V}
theorem F5 {y:V} {u:U} {b:Bool} (ru:aM K H M u x) (rw:aM K H M w y) (h:J8 u w=some b):Ih x y=true/\decide (x=y)=b:=by
 cases u <;> cases w <;> simp only [J8,Option.some.injEq,reduceCtorEq] at h <;> subst h <;>
  (first
   | (cases ru.non) | (cases ru.bl) | (cases ru.int) | (cases ru.str)) <;>
  (first
   | (cases rw.non) | (cases rw.bl) | (cases rw.int) | (cases rw.str)) <;> simp [Ih]
def hU:U->Bool
 | .non=>true
 | _=>false
def uO:dY:=fun x y M Q=>match y with
 | .non=>Q (.bl (hU x)) M
 | _=>False
def qG:dY:=fun x y M Q=>match y with
 | .non=>Q (.bl (!hU x)) M
 | _=>False
theorem Ga {u:U} (ru:aM K H M u x):decide (x=.non)=hU u:=by
 cases u with
 | non=>cases ru.non;simp [hU]
 | bl b=>cases ru.bl;simp [hU]
 | int b=>cases ru.int;simp [hU]
 | str b=>cases ru.str;simp [hU]
 | ty b=>cases ru.ty;simp [hU]
 | ref b=>cases ru.ref;simp [hU]
 | tup b=>obtain ⟨a,vs,rfl,_⟩:=ru.tup;simp [hU]
 | lst b=>obtain ⟨a,vs,rfl,_⟩:=ru.lst;simp [hU]
 | dic ks tk us=>simp only [aM] at ru;obtain ⟨a,vs,rfl,_⟩:=ru;simp [hU]
theorem Qy:dG K (fun x y H Q=>y=.non/\Q (.bl (decide (x=.non))) H) uO:=fun x y u w H M Q' rm ru rw h Q c=>by
 unfold uO at h;split at h
 ·exact ⟨rw.non,c.here rm (by rw [Ga ru];exact fQ) h⟩
 ·exact h.elim
theorem NV:dG K (fun x y H Q=>y=.non/\Q (.bl (!decide (x=.non))) H) qG:=fun x y u w H M Q' rm ru rw h Q c=>by
 unfold qG at h;split at h
 ·exact ⟨rw.non,c.here rm (by rw [Ga ru];exact fQ) h⟩
 ·exact h.elim
end
def eQ {α:Type} (k:Nat) (ix:List Nat) (σ:List (Option α)):List (Option α):=List.replicate k none++ix.map fun i=>(σ[i]?).getD none
def Dn (k:Nat) (ix:List Nat) (wi:TI) (g:TG) (tc:TT) (te:TE):TE:=fun σ H Q=>wi σ H fun J H1=>∀ D,H1 D=none->∃ W:Nat->Nat->Hp->Prop,(∃ m,W 0 m (upd H1 D (.lst [])))/\∀ i m H,W i m H ->
 (J.stop i H/\Q (.ref D) H)\/(J.go i H/\∀ x H',J.yld i H x H'->g x (eQ k ix σ) H' fun σ2 H2=>tc σ2 H2 fun ok H3 =>
  if ok=true then te σ2 H3 fun y H4=>∃ ys,H4 D=some (.lst ys)/\ys.length < sizeLine/\∃ m',m' < m/\W (i + 1) m' (upd H4 D (.lst (ys++[y]))) else ∃ m',m' < m/\W (i + 1) m' H3)
def RZ (o:Bool) (Q:UK) (D:Addr) (ys:List U) (M:aG):Prop:=match o with
 | true=>Q (.ref D) M
 | false=>∃ M',Sub M' M/\M' D=none/\Q (.lst ys) M'
def sO (o:Bool) (k:Nat) (ix:List Nat) (wi:UI) (g:UG) (tc:UT) (te:UE):UE:=fun τ M Q=>wi τ M fun S M1=>S.xs.length<=sizeLine/\∀ D,M1 D=none->∃ P:Nat->List U->aG->Prop,P 0 [] (mup M1 D (.lst [])) /\
 (∀ i ys M,P i ys M->S.ok M/\M D=some (.lst ys)/\ys.length<=i) /\
 (∀ i x ys M,S.xs[i]?=some x->P i ys M->g x (eQ k ix τ) M fun τ2 M2=>tc τ2 M2 fun ok M3=>if ok=true then te τ2 M3 fun y M4=>M4 D=some (.lst ys)/\P (i + 1) (ys++[y]) (mup M4 D (.lst (ys++[y]))) else P (i + 1) ys M3) /\
 ∀ ys M,P S.xs.length ys M->RZ o Q D ys M
section
variable {K:PySem.W.Frag}
theorem Me {H:Hp} {M:aG} {σ:St} {τ:SU} (k:Nat) (ix:List Nat) (r:dU K H M σ τ):dU K H M (eQ k ix σ) (eQ k ix τ):=by
 refine ⟨by simp [eQ],fun i u e=>?_⟩;unfold eQ at e ⊢
 by_cases hi:i < k
 ·rw [List.getElem?_append_left (by simpa using hi),List.getElem?_replicate] at e
  split at e <;> cases e
 ·rw [List.getElem?_append_right (by simpa using Nat.le_of_not_lt hi),List.getElem?_map] at e ⊢
  simp only [List.length_replicate] at e ⊢
  cases q:ix[i - k]? with
  | none=>rw [q] at e;cases e
  | some j =>
   rw [q] at e;simp only [Option.map_some,Option.some.injEq] at e ⊢
   cases z:τ[j]? with
   | none=>rw [z] at e;cases e
   | some w =>
    rw [z] at e;simp only [Option.getD_some] at e;subst e;obtain ⟨v,h1,h2⟩:=r.2 j u z;exact ⟨v,by rw [h1];rfl,h2⟩
theorem E1 {o:Bool} {k:Nat} {ix:List Nat} {wi:TI} {wi':UI} {g:TG} {g':UG} {tc:TT} {tc':UT} {te:TE} {te':UE} (hi:sV K wi wi') (hg:Ab K g g') (hc:kW K tc tc') (he:bR K te te') :
  bR K (Dn k ix wi g tc te) (sO o k ix wi' g' tc' te'):=fun σ τ H M Q' rs rm h Q c=>by
 refine hi σ τ H M _ rs rm h _ fun J S M1 H1 s1 rm1 w h=>?_;obtain ⟨hz,h⟩:=h;intro D hD;obtain ⟨P,p0,inv,turn,fin⟩:=h D (rm1.no hD);have sD:aQ H1 M1 (upd H1 D (.lst [])) (mup M1 D (.lst [])):=aQ.own rm1 hD;have rmD:RelM K (upd H1 D (.lst [])) (mup M1 D (.lst [])):=rm1.put sD ⟨[],bY,.nil⟩;refine ⟨fun i m H2=>∃ M2 ys,aQ H1 M1 H2 M2/\RelM K H2 M2/\P i ys M2/\i<=S.xs.length/\m=S.xs.length - i,⟨_,_,[],sD,rmD,p0,Nat.zero_le _,rfl⟩,?_⟩;rintro i m H2 ⟨M2,ys,s2,rm2,p2,hle,rfl⟩;obtain ⟨ok2,d2,l2⟩:=inv i ys M2 p2
 by_cases hlt:i < S.xs.length
 ·obtain ⟨go,yl⟩:=w.step H2 M2 s2 rm2 ok2 i S.xs[i] (by simp [hlt])
  refine .inr ⟨go,fun x H3 y=>?_⟩;obtain ⟨s3,rm3,ru⟩:=yl x H3 y;have rs3:dU K H3 M2 (eQ k ix σ) (eQ k ix τ):=Me k ix (((rs.stp s1).stp s2).stp s3);refine hg _ x _ _ H3 M2 _ ru rs3 rm3 (turn i S.xs[i] ys M2 (by simp [hlt]) p2) _ fun σ4 τ4 H4 M4 s4 rm4 rs4 q4=>?_;refine hc σ4 τ4 H4 M4 _ rs4 rm4 q4 _ fun b M5 H5 s5 rm5 q5=>?_;have s25:aQ H1 M1 H5 M5:=((s2.trans s3).trans s4).trans s5
  cases b with
  | false =>
   exact ⟨S.xs.length - (i + 1),by omega,M5,ys,s25,rm5,q5,hlt,rfl⟩
  | true =>
   refine he σ4 τ4 H5 M5 _ (rs4.stp s5) rm5 q5 _ fun u v M6 H6 s6 rm6 ru6 q6=>?_;obtain ⟨d6,p6⟩:=q6;obtain ⟨vs,h6,r6⟩:=rm6 D _ d6;have l6:vs.length < sizeLine:=by rw [<- r6.length];omega
   have s7:aQ H6 M6 (upd H6 D (.lst (vs++[v]))) (mup M6 D (.lst (ys++[u]))):=aQ.write d6;exact ⟨vs,h6,l6,S.xs.length - (i + 1),by omega,_,ys++[u],(s25.trans s6).trans s7,rm6.put s7 ⟨_,bY,(r6.append (.cons ru6 .nil)).stp s7⟩,p6,hlt,rfl⟩
 ·have e:i=S.xs.length:=by omega
  subst e;refine .inl ⟨w.stop H2 M2 s2 rm2 ok2,?_⟩;have q:=fin ys M2 p2
  cases o with
  | true=>exact c _ _ M2 H2 (s1.trans s2) rm2 i6 q
  | false =>
   obtain ⟨M',sb,n,q⟩:=q;obtain ⟨vs,h6,r6⟩:=rm2 D _ d2;have s':aQ H2 M2 H2 M':=sb.less;exact c _ _ M' H2 ((s1.trans s2).trans s') (rm2.sub sb) (u0 n h6 (r6.stp s')) q
end
theorem Jz {o:Bool} {k:Nat} {ix:List Nat} {wi:UI} {g:UG} {tc:UT} {te:UE} {τ:SU} {Q:UK} {S:Src} (f:U->Option U) (hz:S.xs.length<=sizeLine) (hs:S.ok M1)
  (h:∀ x∈S.xs,∀ M,Sub M1 M->∀ R:Option U->aG->Prop,R (f x) M->g x (eQ k ix τ) M fun τ2 M2=>tc τ2 M2 fun ok M3=>if ok=true then te τ2 M3 fun y M4=>R (some y) M4 else R none M3)
  (q:i7 o (S.xs.filterMap f) M1 Q):S.xs.length<=sizeLine/\∀ D,M1 D=none->∃ P:Nat->List U->aG->Prop,P 0 [] (mup M1 D (.lst [])) /\
 (∀ i ys M,P i ys M->S.ok M/\M D=some (.lst ys)/\ys.length<=i) /\
 (∀ i x ys M,S.xs[i]?=some x->P i ys M->g x (eQ k ix τ) M fun τ2 M2=>tc τ2 M2 fun ok M3=>if ok=true then te τ2 M3 fun y M4=>M4 D=some (.lst ys)/\P (i + 1) (ys++[y]) (mup M4 D (.lst (ys++[y]))) else P (i + 1) ys M3) /\
 ∀ ys M,P S.xs.length ys M->RZ o Q D ys M:=by
 refine ⟨hz,fun D hD=>⟨fun i ys M=>ys=(S.xs.take i).filterMap f/\M=mup M1 D (.lst ys)/\i<=S.xs.length,⟨by simp,rfl,Nat.zero_le _⟩,?_,?_,?_⟩⟩
 ·rintro i ys M ⟨rfl,rfl,hi⟩
  refine ⟨fun a e=>?_,aD,?_⟩
  ·have:=hs a e
   rw [aF (fun z=>by subst z;rw [hD] at this;cases this)];exact this
  ·refine Nat.le_trans (List.length_filterMap_le _ _) ?_
   rw [List.length_take];omega
 ·rintro i x ys M e ⟨rfl,rfl,hi⟩
  have hlt:i < S.xs.length:=(List.getElem?_eq_some_iff.mp e).1;have hx:x∈S.xs:=List.mem_of_getElem? e
  have tk:(S.xs.take (i + 1)).filterMap f=(S.xs.take i).filterMap f++(f x).toList:=by
   rw [List.take_add_one,e,List.filterMap_append];cases q:f x <;> simp [q]
  refine h x hx (mup M1 D (.lst ((S.xs.take i).filterMap f))) ((Sub.refl M1).mup hD) (fun r M4=>match r with
   | some y=>M4 D=some (.lst ((S.xs.take i).filterMap f))/\((S.xs.take i).filterMap f++[y]=(S.xs.take (i + 1)).filterMap f/\mup M4 D (.lst ((S.xs.take i).filterMap f++[y]))=mup M1 D (.lst ((S.xs.take i).filterMap f++[y]))/\i + 1<=S.xs.length)
   | none=>(S.xs.take i).filterMap f=(S.xs.take (i + 1)).filterMap f/\M4=mup M1 D (.lst ((S.xs.take i).filterMap f))/\i + 1<=S.xs.length) ?_
  rw [tk]
  cases f x with
  | none=>exact ⟨by simp,rfl,hlt⟩
  | some y=>exact ⟨aD,rfl,aZ,hlt⟩
 ·rintro ys M ⟨rfl,rfl,hi⟩
  rw [List.take_length]
  cases o with
  | true=>exact q D hD
  | false=>exact ⟨M1,(Sub.refl M1).mup hD,hD,q⟩
open PySem.Spec PyProof.Rows
variable {tg:Expr}
theorem EL {P:Program} {w:World} {ty:String} (z:Str) (t:Tok) (it:Addr)
  (W:∀ A':Around,A'.handled=none->Walks P w A' it [it] [it] z.cps.size (SignAt z) (fun i h=>h.IsStrIter it ty z t i))
  (hty:["enumerate","zip","dict_itemiterator","dict_reverseitemiterator","odict_iterator","itertools.zip_longest","itertools.pairwise"].contains ty=false)
  (self:∀ (A:Around) (i:Nat) (s:Shared) (Q:Value->Shared->Prop) (E:Value->Shared->Prop),s.heap.IsStrIter it ty z t i->Q (.ref it) s->wpAny (model P w) A (pyIter (.ref it)) Q E s) :
  Turn P w K tg (Rj z) [it] it (fun i h=>h.IsStrIter it ty z t i) where
 mem:=by simp
 obj:=fun i h st b hb=>by
  have e:b=it:=by simpa using hb
  subst e;obtain ⟨o,e,c,d⟩:=st;exact ⟨o,e,fun v z=>by rw [d] at z;cases z⟩
 keep:=fun i h h' st k=>let ⟨o,ho,r⟩:=st;⟨o,k it (by simp) o ho,r⟩
 item:=by
  intro X hP hw hK hc i pins s σ H E I hf st hg;subst hP hw hK;obtain ⟨f0,f1,f2,f3,f4,f5⟩:=hf it (by simp);refine (W X.A (I.ok.hd hc)).item i s _ E hg st fun v h' tk hv st' k=>?_;obtain ⟨c,u,hc',rfl⟩:=hv;have I1:Inv X pins σ H { s with heap:=h',toks:=tk }:=I.turned (t':=tk) (fun b o hb e=>k b o (by simpa using hb) e) f0 f1 f3 f4 f5;obtain ⟨o,e,cl,d⟩:=id st';exact ⟨_,rfl,yW (s:={ s with heap:=h',toks:=tk }) e cl d hty ⟨.str ⟨#[c]⟩,H,I1,⟨_,rfl⟩,⟨rfl,c,hc',rfl⟩,st',fun b hb=>(hf b hb).1⟩⟩
 done:=by
  intro X hP hw hK hc i pins s σ H E I hf st hg;subst hP hw hK;have hg':i=z.cps.size:=hg;subst hg';obtain ⟨f0,f1,f2,f3,f4,f5⟩:=hf it (by simp);exact (W X.A (I.ok.hd hc)).done s _ E st fun h' tk k=>⟨rfl,I.turned (t':=tk) (fun b o hb e=>k b o (by simpa using hb) e) f0 f1 f3 f4 f5⟩
 self:=self
section
variable {X:Cx} {tg:Expr}
theorem Rm {l:Expr} {tl:TE} (hl:PE X l tl):PI X tg l (Q8 X.K tl):=by
 intro pins s σ H R I h;refine bD (hl pins s σ H _ I h) fun v s1 ⟨x,H1,I1,r1,q1⟩=>?_
 have fp:∀ b∈[s1.heap.objs.size],vV X pins H1 b:=fun b hb=>by
  have e:b=s1.heap.objs.size:=by simpa using hb
  subst e;exact I1.fpOk (Nat.le_refl _) (I1.hok.fresh (Nat.le_refl _))
 rcases q1 with ⟨a,rfl,⟨xs,hq⟩,q⟩ | ⟨a,rfl,⟨xs,hq⟩,q⟩ | ⟨z,rfl,q⟩
 ·cases r1
  obtain ⟨its,rv,p,hz⟩:=I1.list hq;refine wpAny_pyIter_list p.isList ?_;exact ⟨s1.heap.objs.size,[s1.heap.objs.size],_,_,H1,rfl,I1.kept (t':=s1.toks) fun b o e=>Heap.get?_push_of_some _ e,KD a _,⟨_,Heap.get?_push_size _ rfl,rfl,rfl⟩,fp,q⟩
 ·cases r1
  obtain ⟨its,rv,p,hz⟩:=I1.tuple hq;refine wpAny_pyIter_tuple (show s1.heap.IsTuple a its.toArray from p) ?_;exact ⟨s1.heap.objs.size,[s1.heap.objs.size],_,_,H1,rfl,I1.kept (t':=s1.toks) fun b o e=>Heap.get?_push_of_some _ e,IP a _,⟨_,Heap.get?_push_size _ rfl,rfl,rfl⟩,fp,q⟩
 ·obtain ⟨t,rfl⟩:=r1
  cases ha:z.cps.all (· < 128)
  ·refine wpAny_pyIter_wide ha ?_
   exact ⟨s1.heap.objs.size,[s1.heap.objs.size],_,_,H1,rfl,I1.kept (t':=s1.toks) fun b o e=>Heap.get?_push_of_some _ e,
    EL z t _ (fun A' hA=>Walks.strWide hA _ z t) (by decide) (fun A i s Q E st h=>wpAny_pyIter_striter_wide st h),⟨_,Heap.get?_push_size _ rfl,rfl,rfl⟩,fp,q⟩
  ·refine wpAny_pyIter_ascii ha ?_
   exact ⟨s1.heap.objs.size,[s1.heap.objs.size],_,_,H1,rfl,I1.kept (t':=s1.toks) fun b o e=>Heap.get?_push_of_some _ e,
    EL z t _ (fun A' hA=>Walks.strAscii hA _ z t) (by decide) (fun A i s Q E st h=>wpAny_pyIter_striter_ascii st h),⟨_,Heap.get?_push_size _ rfl,rfl,rfl⟩,fp,q⟩
end
section
variable {prog:Program} {w:World} {A:Around} {R:Result->Shared->Prop} {s:Shared}
variable {scope:Scope} {env:Env}
theorem Ft {elt target iter:Expr} {ifs:List Expr} {pos:Pos} {it acc:Value} (I:Nat->Shared->Prop)
  (turn:∀ n s,I n s->wpAny (model prog w) A (pyNext it) (fun r s₁=>match r with
   | none=>R (.ok .next) s₁
   | some v=>wpAny (model prog w) A (letOwnedTupleGo target it v) (fun _ s₀=>wpAny (model prog w) A (assign target env v) (fun _ s₂ =>
     wpAny (model prog w) A (forIn ifs true fun c r=>if r=true then do let ok <- isTrue c env (eval c env);pure (ForInStep.yield ok) else pure (ForInStep.yield r)) (fun ok s₃ =>
      if ok=true then wpAny (model prog w) A (eval elt env) (fun x s₄ =>
       wpAny (model prog w) A (call (.builtin "list.append") [acc,x]) (fun _ s₅=>∃ m,m < n/\I m s₅) (fun _ _=>False) s₄) (fun _ _=>False) s₃
      else ∃ m,m < n/\I m s₃) (fun _ _=>False) s₂) (fun _ _=>False) s₀) (fun _ _=>False) s₁) (fun _ _=>False) s)
  (n:Nat) (h:I n s) :
  codeAny (model prog w) A (.compLoop (.ListComp elt [⟨target,iter,ifs,0⟩] scope pos) 0 it acc env) R s:=by
 refine codeAny_loop rfl I (fun n s hI=>?_) n h;show wpAny _ A ((compTurn (.ListComp elt [⟨target,iter,ifs,0⟩] scope pos) 0 it acc env).onRaise (fun x=>do noteFrame x env;theTreesLotGoes x)) _ _ s;refine wpAny_noted ?_;rw [compTurn_list];refine wpAny_bind (wpAny_standAt (wpAny_bind (wpAny_mono (turn n s hI) (fun r s₁ h₁=>?_) fun _ _ h'=>h'.elim)))
 cases r with
 | none=>exact wpAny_pure h₁
 | some v =>
  refine wpAny_bind (wpAny_mono h₁ (fun _ s₀ h₀=>?_) fun _ _ h'=>h'.elim);refine wpAny_bind (wpAny_mono h₀ (fun _ s₂ h₂=>wpAny_bind (wpAny_mono h₂ (fun ok s₃ h₃=>?_) fun _ _ h'=>h'.elim)) fun _ _ h'=>h'.elim)
  cases ok with
  | false=>exact wpAny_pure ⟨rfl,h₃⟩
  | true =>
   exact wpAny_bind (wpAny_bind (wpAny_mono h₃ (fun x s₄ h₄=>wpAny_bind (wpAny_mono h₄ (fun _ s₅ h₅=>wpAny_pure (wpAny_pure ⟨rfl,h₅⟩)) fun _ _ h'=>h'.elim)) fun _ _ h'=>h'.elim))
theorem uY {env:Env}:∀ (names:List (Str × NameKind)) (cs:List (Str × Addr)),(∀ x∈names,x.2=.free->∃ c,env.cells.lookup x.1=some c) ->
  (∀ x c,cs.lookup x=some c->env.cells.lookup x=some c) ->
  ∃ cl,(forIn names cs fun (x:Str × NameKind) (cs:List (Str × Addr))=>(if (x.2 == NameKind.free)=true then do let c <- cellOf env x.1;pure (ForInStep.yield ((x.1,c) :: cs)) else pure (ForInStep.yield cs):Sem (ForInStep (List (Str × Addr)))))=pure cl /\
   (∀ x c,cl.lookup x=some c->env.cells.lookup x=some c)/\(∀ x,(∃ c,cs.lookup x=some c)\/(x,NameKind.free)∈names->∃ c,cl.lookup x=some c)
 | [],cs,_,h=>⟨cs,rfl,h,fun x hx=>by rcases hx with hx | hx;exact hx;cases hx⟩
 | (n,k) :: r,cs,hf,h=>by
  rw [List.forIn_cons]
  by_cases hk:k=.free
  ·subst hk
   obtain ⟨c,hc⟩:=hf (n,.free) List.mem_cons_self rfl;have e:cellOf env n=pure c:=by unfold cellOf;rw [hc]
   simp only [beq_self_eq_true,if_true,e,pure_bind]
   obtain ⟨cl,h1,h2,h3⟩:=uY r ((n,c) :: cs) (fun x hx=>hf x (List.mem_cons_of_mem _ hx)) (fun x d q=>by
    rw [List.lookup_cons] at q;split at q
    ·rename_i e;cases q;rw [beq_iff_eq.mp e];exact hc
    ·exact h x d q)
   refine ⟨cl,h1,h2,fun x hx=>h3 x ?_⟩
   rcases hx with ⟨d,hd⟩ | hx
   ·left
    rw [List.lookup_cons];split
    ·exact ⟨_,rfl⟩
    ·exact ⟨d,hd⟩
   ·rcases List.mem_cons.mp hx with e | hx
    ·left;cases e;exact ⟨c,by simp [List.lookup_cons]⟩
    ·exact .inr hx
  ·have hb:(k == NameKind.free)=false:=by simpa using hk
   simp only [hb,Bool.false_eq_true,if_false,pure_bind];obtain ⟨cl,h1,h2,h3⟩:=uY r cs (fun x hx=>hf x (List.mem_cons_of_mem _ hx)) h;refine ⟨cl,h1,h2,fun x hx=>h3 x ?_⟩
   rcases hx with hx | hx
   ·exact .inl hx
   ·rcases List.mem_cons.mp hx with e | hx
    ·cases e;exact absurd rfl hk
    ·exact .inr hx
theorem vA (hf:∀ x∈scope.names,x.2=.free->∃ c,env.cells.lookup x.1=some c) :
  ∃ cl,closureFor scope env=pure cl/\(∀ x c,cl.lookup x=some c->env.cells.lookup x=some c)/\(∀ x,(x,NameKind.free)∈scope.names->∃ c,cl.lookup x=some c):=by
 obtain ⟨cl,h1,h2,h3⟩:=uY (env:=env) scope.names [] hf (fun x c h=>by cases h);refine ⟨cl,?_,h2,fun x hx=>h3 x (.inr hx)⟩;unfold closureFor
 first
  | exact h1
  | (have:_:=h1;simpa using this)
end
def eL (X:Cx) (N:List Str) (scope:Scope) (cl:List (Str × Addr)) (C:Addr) (s:Shared) (H:Hp) (fp:List Addr):Cx where
 prog:=X.prog
 w:=X.w
 K:=X.K
 mg:=X.mg
 base:=X.base
 A:=X.A
 N:=N
 s₀:=s
 H₀:=H
 env:=compEnvC scope cl C X.env
 outer:=X.stack
 stack:=X.stack
 ex:=fp
 fn:=fun _=>false
 calm:=X.calm
 pn:=[]
 xe:=fun _ _=>False
def Gv (X:Cx) (ifs:List Expr) (t:TT):Prop :=
 ∀ (pins:List (Addr × Obj)) (s:Shared) (σ:L2.St) (H:Hp) (Q:Bool->Hp->Prop),Inv X pins σ H s->t σ H Q ->
  wpAny (model X.prog X.w) X.A (forIn ifs true fun c r=>if r=true then do let ok <- isTrue c X.env (eval c X.env);pure (ForInStep.yield ok) else pure (ForInStep.yield r)) (TP X pins σ Q) X.xe s
def RP:TT:=fun _ H Q=>Q true H
variable {X:Cx}
theorem Qw:Gv X [] RP:=fun pins s σ H Q I h=>wpAny_tests_nil ⟨H,I,h⟩
theorem PN {c:Expr} {t:TT} (h:PT X c t):Gv X [c] t:=fun pins s σ H Q I q=>wpAny_tests_one (h pins s σ H Q I q)
def GK (k:Nat) (g:TG):Prop:=∀ x σ H Q,g x σ H Q->g x σ H (fun σ2 H2=>(∀ j,k<=j->σ2[j]?=σ[j]?)/\Q σ2 H2)
def Jo (k:Nat) (g:qY):Prop:=∀ xs σ H Q,g xs σ H Q->g xs σ H (fun σ2 H2=>(∀ j,k<=j->σ2[j]?=σ[j]?)/\Q σ2 H2)
variable {i:Nat}
theorem Qc {k:Nat} (h:i < k):GK k (vD i):=fun x σ H Q q=>⟨fun j hj=>by rw [List.getElem?_set,if_neg (by omega)],q⟩
theorem Tf {k:Nat}:Jo k EA:=fun xs σ H Q q=>⟨q.1,fun j _=>rfl,q.2⟩
variable {g:TG} {r:qY}
theorem OS {k:Nat} (h1:GK k g) (h2:Jo k r) (m2:∀ xs σ H Q Q',(∀ σ2 H2,Q σ2 H2->Q' σ2 H2)->r xs σ H Q->r xs σ H Q') (m1:∀ x σ H Q Q',(∀ σ2 H2,Q σ2 H2->Q' σ2 H2)->g x σ H Q->g x σ H Q'):Jo k (A1 g r):=fun xs σ H Q q=>by
 obtain ⟨v,r',rfl,q⟩:=q;refine ⟨v,r',rfl,m1 _ _ _ _ _ (fun σ2 H2 z=>?_) (h1 _ _ _ _ q)⟩;exact m2 _ _ _ _ _ (fun σ3 H3 y=>⟨fun j hj=>(y.1 j hj).trans (z.1 j hj),y.2⟩) (h2 _ _ _ _ z.2)
theorem R7:∀ x σ H (Q Q':L2.St->Hp->Prop),(∀ σ2 H2,Q σ2 H2->Q' σ2 H2)->vD i x σ H Q->vD i x σ H Q':=fun x σ H Q Q' h q=>h _ _ q
theorem Ui:∀ xs σ H (Q Q':L2.St->Hp->Prop),(∀ σ2 H2,Q σ2 H2->Q' σ2 H2)->EA xs σ H Q->EA xs σ H Q':=fun x σ H Q Q' h q=>⟨q.1,h _ _ q.2⟩
theorem Ta (m1:∀ x σ H Q Q',(∀ σ2 H2,Q σ2 H2->Q' σ2 H2)->g x σ H Q->g x σ H Q') (m2:∀ xs σ H Q Q',(∀ σ2 H2,Q σ2 H2->Q' σ2 H2)->r xs σ H Q->r xs σ H Q') :
  ∀ xs σ H (Q Q':L2.St->Hp->Prop),(∀ σ2 H2,Q σ2 H2->Q' σ2 H2)->A1 g r xs σ H Q->A1 g r xs σ H Q':=fun xs σ H Q Q' h q=>by
 obtain ⟨v,r',rfl,q⟩:=q;exact ⟨v,r',rfl,m1 _ _ _ _ _ (fun σ2 H2 z=>m2 _ _ _ _ _ h z) q⟩
variable {n:Nat}
theorem Tw {k:Nat} (h:Jo k r):GK k (DV K n r):=fun x σ H Q q=>by
 obtain ⟨a,xs,rfl,h1,h2,q⟩:=q;exact ⟨a,xs,rfl,h1,h2,h _ _ _ _ q⟩
theorem TZ (m2:∀ xs σ H Q Q',(∀ σ2 H2,Q σ2 H2->Q' σ2 H2)->r xs σ H Q->r xs σ H Q') :
  ∀ x σ H (Q Q':L2.St->Hp->Prop),(∀ σ2 H2,Q σ2 H2->Q' σ2 H2)->DV K n r x σ H Q->DV K n r x σ H Q':=fun x σ H Q Q' h q=>by
 obtain ⟨a,xs,rfl,h1,h2,q⟩:=q;exact ⟨a,xs,rfl,h1,h2,m2 _ _ _ _ _ h q⟩
variable {tc:TT} {te:TE} {elt iter:Expr} {ifs:List Expr} {scope:Scope} {pos:Pos} {N:List Str} {wi:TI}
theorem Cn {k:Nat} {ix:List Nat}
  (hc:X.calm=true) (hi:PI X tg iter wi) (gk:GK k g)
  (hk:scope.kind=.function) (hcell:∀ y∈scope.names,y.2≠.cell) (hnames:∀ y∈scope.names,y.2=.local->scope.names.lookup y.1=some .local)
  (hfree:∀ y∈scope.names,y.2=.free->X.env.kindOf y.1=some .cell\/X.env.kindOf y.1=some .free)
  (hone:∀ y∈scope.names,y.2=.free->scope.names.lookup y.1=some .free)
  (hN:∀ (j:Nat) x,N[k + j]?=some x->∃ i,ix[j]?=some i/\X.N[i]?=some x)
  (hcap:∀ (j:Nat) x,N[k + j]?=some x->scope.names.lookup x=some .free)
  (hlen:N.length=k + ix.length)
  (hg:∀ cl C s H fp,PG (eL X N scope cl C s H fp) tg g)
  (hif:∀ cl C s H fp,Gv (eL X N scope cl C s H fp) ifs tc)
  (he:∀ cl C s H fp,PE (eL X N scope cl C s H fp) elt te)
  (hs:∀ x,foldedSetIterable iter X.env x=pure x) {pins:List (Addr × Obj)} {s:Shared} {σ:L2.St} (I:L2.Inv X pins σ H s) (h:Dn k ix wi g tc te σ H Q) {pos':Pos} {use:Option (Value->Sem Unit)} {QQ:Value->Shared->Prop}
  (end_:∀ (D C:Addr) (H3:Hp) (s4:Shared),L2.Inv X pins σ H3 s4->(∃ m,s4.heap.Ns C m)->H3 C=none->C≠X.env.locals->X.s₀.heap.objs.size<=C->(∀ x c,X.env.cells.lookup x=some c->c≠C)->(∀ p∈X.pn++pins,p.1≠C) ->
   (∀ h':Heap,Heap.SameBut C s4.heap h'->L2.Inv X pins σ H3 { s4 with heap:=h' })->Q (.ref D) H3->compPost (model X.prog X.w) X.A X.xe use QQ (.ref D) C (.ok .next) s4) :
  wpAny (model X.prog X.w) X.A (comprehension (.ListComp elt [⟨tg,iter,ifs,0⟩] scope pos) scope X.env pos' (newList []) false (eval iter X.env) use) QQ X.xe s:=by
 obtain ⟨cl,hclos,hcl,hcl2⟩:=vA (env:=X.env) (scope:=scope) (fun x hx e=>I.ok.has x.1 (hfree x hx e));refine wpAny_comprehension_free (use:=use) rfl hs hclos hk hnames (bD (hi pins s σ H _ I h) fun v s1 h1=>bD h1 fun itv s2 h2=>?_);obtain ⟨it,fp,tn,J,H2,rfl,I2,T,cO,f2,h2⟩:=h2;refine wpAny_newObj_type (wpAny_newFunctionEnv hcell (by intro y hy;simp at hy) (fun h₁ hns₁ hsb₁=>?_) hk);dsimp only at hns₁ hsb₁ ⊢
 generalize hP:s2.heap.push { cls:=.type "list",dict:=none,data:=.seq ([]:List Value).toArray }=P2 at hns₁ hsb₁ ⊢
 have hCs:P2.objs.size=s2.heap.objs.size + 1:=by rw [<- hP,Heap.size_push]
 have below:∀ b,b < s2.heap.objs.size->b≠P2.objs.size:=fun b hb=>by rw [hCs];omega
 have old:∀ b o,s2.heap.get? b=some o->h₁.get? b=some o:=fun b o e=>hsb₁.extBut b o (below b (Heap.lt_size e)) (Heap.get?_push_of_some _ (hP ▸ Heap.get?_push_of_some _ e))
 have hacc:h₁.get? s2.heap.objs.size=some { cls:=.type "list",dict:=none,data:=.seq ([]:List Value).toArray }:=hsb₁.extBut _ _ (show s2.heap.objs.size≠P2.objs.size by rw [hCs];exact Nat.ne_of_lt (Nat.lt_succ_self _)) (Heap.get?_push_of_some _ (hP ▸ Heap.get?_push_size _ rfl))
 obtain ⟨W,⟨m0,w0⟩,turn⟩:=h2 s2.heap.objs.size (I2.hok.fresh (Nat.le_refl _))
 have fpl:∀ b∈fp,b < s2.heap.objs.size:=fun b hb=>let ⟨o,e,_⟩:=T.obj _ _ cO b hb;Heap.lt_size e
 have σl:(eQ k ix σ).length=N.length:=by rw [hlen];simp [eQ]
 have i2:=I2.ok
 have ok':(eL X N scope cl P2.objs.size s2 H2 fp).Ok:=by
  refine ⟨i2.mod,hk,i2.glob,i2.blt,(by show s2.heap.objs.size<=P2.objs.size;rw [hCs];exact Nat.le_succ _),fun x y c e1 e2=>i2.inj x y c (hcl x c e1) (hcl y c e2),fun x hx=>?_,(fun x c e=>by cases e),i2.hd,i2.frames,.inl rfl,fun b hb=>?_,fun b o e=>I2.bs b o e,Nat.le_trans i2.bsz I2.sz,fun b o e hb=>?_,fun b hb hb2=>?_,I2.stack,I2.stkFree⟩
  ·
   have hx':(relabel scope X.env).names.lookup x=some .cell\/(relabel scope X.env).names.lookup x=some .free:=hx
   have key:∀ (names:List (Str × NameKind)),(∀ y∈names,y.2≠.cell)->((names.map fun (n,k)=>if (k == NameKind.free && X.env.scope.kind == .function && X.env.kindOf n == some .cell) then (n,NameKind.cell) else (n,k)).lookup x=some .cell \/
     (names.map fun (n,k)=>if (k == NameKind.free && X.env.scope.kind == .function && X.env.kindOf n == some .cell) then (n,NameKind.cell) else (n,k)).lookup x=some .free)->(x,NameKind.free)∈names:=by
    intro names
    induction names with
    | nil=>intro _ h;rcases h with h | h <;> cases h
    | cons y r ih =>
     obtain ⟨n,kd⟩:=y;intro hnc h
     by_cases hxn:x=n
     ·subst hxn
      have hkc:kd≠.cell:=hnc (x,kd) List.mem_cons_self
      by_cases hkf:kd=.free
      ·subst hkf;exact List.mem_cons_self
      ·exfalso
       have hb:(kd == NameKind.free)=false:=by simpa using hkf
       simp only [List.map_cons,hb,Bool.false_and,Bool.false_eq_true,if_false,List.lookup_cons,beq_self_eq_true] at h
       rcases h with h | h
       ·exact hkc (Option.some.inj h)
       ·exact hkf (Option.some.inj h)
     ·have hb:(x == n)=false:=by simpa using hxn
      refine List.mem_cons_of_mem _ (ih (fun y hy=>hnc y (List.mem_cons_of_mem _ hy)) ?_);have e1:∀ z:NameKind,List.lookup x (((n,z)) :: (r.map fun (n,k)=>if (k == NameKind.free && X.env.scope.kind == .function && X.env.kindOf n == some .cell) then (n,NameKind.cell) else (n,k)))=List.lookup x (r.map fun (n,k)=>if (k == NameKind.free && X.env.scope.kind == .function && X.env.kindOf n == some .cell) then (n,NameKind.cell) else (n,k)):=fun z=>by rw [List.lookup_cons,hb]
      rw [List.map_cons] at h;dsimp only at h;split at h
      ·rw [e1] at h;exact h
      ·rw [e1] at h;exact h
   exact hcl2 x (key scope.names hcell hx')
  ·exact ⟨below b (fpl b hb),fun x c e=>(f2 b hb).2.2.2.2.1 x c (hcl x c e)⟩
  ·rcases (f2 b hb).2.2.2.1 with z | z
   ·exact i2.noex b o e z
   ·exact absurd (Nat.lt_of_lt_of_le (Heap.lt_size e) (Nat.le_trans i2.bsz z)) (Nat.lt_irrefl _)
  ·rcases List.mem_cons.mp (I2.stkSub b hb2) with z | z
   ·exact (f2 b hb).2.1 z
   ·exact (f2 b hb).2.2.1 z
 have stat:∀ {H':Hp},(∀ b∈fp,H' b=none)->∀ b∈fp,vV (eL X N scope cl P2.objs.size s2 H2 fp) [] H' b:=fun hn b hb =>
  ⟨hn b hb,below b (fpl b hb),fun z=>ok'.exfs b hb z,.inl hb,fun x c e=>(f2 b hb).2.2.2.2.1 x c (hcl x c e),(fun p hp=>by cases hp)⟩
 have hD:H2 s2.heap.objs.size=none:=I2.hok.fresh (Nat.le_refl _)
 have relf:∀ x,scope.names.lookup x=some .free->(X.env.kindOf x=some .cell\/X.env.kindOf x=some .free)->((relabel scope X.env).names.lookup x=some .cell\/(relabel scope X.env).names.lookup x=some .free):=by
  intro x hx hkx
  have key:∀ (names:List (Str × NameKind)),names.lookup x=some .free->((names.map fun (n,k)=>if (k == NameKind.free && X.env.scope.kind == .function && X.env.kindOf n == some .cell) then (n,NameKind.cell) else (n,k)).lookup x=some .cell \/
    (names.map fun (n,k)=>if (k == NameKind.free && X.env.scope.kind == .function && X.env.kindOf n == some .cell) then (n,NameKind.cell) else (n,k)).lookup x=some .free):=by
   intro names
   induction names with
   | nil=>intro h;cases h
   | cons y r ih =>
    obtain ⟨n,kd⟩:=y;intro h;rw [List.lookup_cons] at h
    by_cases hxn:x=n
    ·subst hxn
     simp only [beq_self_eq_true] at h;cases h;rw [List.map_cons];dsimp only;split
     ·left;simp [List.lookup_cons]
     ·right;simp [List.lookup_cons]
    ·have hb:(x == n)=false:=by simpa using hxn
     rw [hb] at h
     have:=ih h
     rw [List.map_cons];dsimp only;split
     ·rw [List.lookup_cons,hb];exact this
     ·rw [List.lookup_cons,hb];exact this
  exact key scope.names hx
 have Istart:∀ tk,Inv (eL X N scope cl P2.objs.size s2 H2 fp) [] (eQ k ix σ) (upd H2 s2.heap.objs.size (.lst [])) { s2 with heap:=h₁,toks:=tk }:=fun tk=>by
  refine ⟨ok',rfl,I2.bare,Un.laid old (Nat.le_refl _) hD,⟨_,hns₁,fun i x v e1 e2 e3=>?_⟩,fun x c e=>?_,?_,fun x c e=>?_,(fun p hp=>by cases hp),I2.hok.laid old (Nat.le_refl _) ⟨Nat.zero_le _,[],_,.nil,hacc⟩,σl⟩
  ·by_cases hik:i < k
   ·exfalso
    unfold eQ at e2;rw [List.getElem?_append_left (by simpa using hik),List.getElem?_replicate] at e2;split at e2 <;> cases e2
   ·have ej:i=k + (i - k):=by omega
    have e1':N[k + (i - k)]?=some x:=by rw [<- ej];exact e1
    obtain ⟨i0,hi0,hXN⟩:=hN (i - k) x e1';have hfx:=hcap (i - k) x e1';have hmem:(x,NameKind.free)∈scope.names:=PySem.mem_of_lookup hfx;have hkx:=hfree _ hmem rfl
    have e4:σ[i0]?=some (some v):=by
     unfold eQ at e2;rw [List.getElem?_append_right (by simpa using Nat.le_of_not_lt hik),List.getElem?_map] at e2;simp only [List.length_replicate,hi0,Option.map_some,Option.some.injEq] at e2
     cases z:σ[i0]? with
     | none=>rw [z] at e2;cases e2
     | some y=>rw [z] at e2;simp only [Option.getD_some] at e2;rw [e2]
    obtain ⟨m2,hn2,hl2⟩:=I2.loc;obtain ⟨u,ru,lk⟩:=hl2 i0 x v hXN e4 (by rcases hkx with z | z;exact .inr (.inl z);exact .inr (.inr z))
    rcases lk with ⟨z,_⟩ | ⟨_,c,hc1,hc2⟩
    ·exfalso
     have z':X.env.kindOf x=some .local:=z
     rcases hkx with y | y <;> (rw [z'] at y;cases y)
    ·obtain ⟨c',hc'⟩:=hcl2 x hmem
     have e5:=hcl x c' hc';rw [hc1] at e5;cases e5;obtain ⟨o,ho,hd⟩:=hc2;exact ⟨u,ru,.inr ⟨relf x hfx hkx,c,hc',o,old _ _ ho,hd⟩⟩
  ·obtain ⟨v,o,ho,hd⟩:=I2.cell x c (hcl x c e)
   exact ⟨v,o,old _ _ ho,hd⟩
  ·show upd H2 s2.heap.objs.size (.lst []) P2.objs.size=none
   rw [bK (show P2.objs.size≠s2.heap.objs.size by rw [hCs];exact Nat.succ_ne_self _)];exact I2.hok.fresh (show s2.heap.objs.size<=P2.objs.size by rw [hCs];exact Nat.le_succ _)
  ·have e':=hcl x c e
   obtain ⟨v,o,ho,hd⟩:=I2.cell x c e';rw [bK (Nat.ne_of_lt (Heap.lt_size ho))];exact I2.freeC x c e'
 have st1:tn 0 h₁:=T.keep 0 _ _ cO fun b hb o e=>old b o e;have fr1:∀ b∈fp,upd H2 s2.heap.objs.size (.lst []) b=none:=fun b hb=>by rw [bK (Nat.ne_of_lt (fpl b hb))];exact (f2 b hb).1
 have fin:∀ (H3:Hp) (s4:Shared),Inv (eL X N scope cl P2.objs.size s2 H2 fp) [] (eQ k ix σ) H3 s4->∀ h':Heap,Heap.SameBut P2.objs.size s4.heap h'->Inv X pins σ H3 { s4 with heap:=h' }:=fun H3 s4 I4 h' sb=>by
  have kp:∀ b o,b < s2.heap.objs.size->s4.heap.get? b=some o->h'.get? b=some o:=fun b o hb e=>sb.extBut b o (below b hb) e;have u:Un (jU X.stack) fp H2 H3 s2.heap s4.heap:=I4.base;refine I2.call' (ch:=fp) (H':=H3) I4.os ⟨fun b o q n hb hx=>kp b o (Heap.lt_size q) (u.keep b o q n hb hx),fun b o q n hb hx=>?_,u.free,fun b o q hx=>?_,u.tups,u.frzs,u.tbls⟩ (fun a o e=>?_) I4.bare fun b hb=>⟨(f2 b hb).2.2.2.1,(f2 b hb).2.1,(f2 b hb).2.2.2.2.1,(f2 b hb).2.2.2.2.2⟩
  ·obtain ⟨sl,e⟩:=u.slot b o q n hb hx
   exact ⟨sl,kp b _ (Heap.lt_size q) e⟩
  ·obtain ⟨o',e⟩:=u.there b o q hx
   exact ⟨o',kp b _ (Heap.lt_size q) e⟩
  ·have nC:H3 P2.objs.size=none:=I4.free
   refine (I4.hok a o e).stay (fun b z hb q=>sb.extBut b z ?_ q) (fun _ q=>q) fun _ _ q=>q
   rcases hb with rfl | hb
   ·exact cM e nC
   ·exact cM hb nC
 have loop:∀ tk,codeAny (model X.prog X.w) X.A (.compLoop (.ListComp elt [⟨tg,iter,ifs,0⟩] scope pos) 0 (.ref it) (.ref s2.heap.objs.size) (compEnvC scope cl P2.objs.size X.env))
   (compPost (model X.prog X.w) X.A X.xe use QQ (.ref s2.heap.objs.size) P2.objs.size) { s2 with heap:=h₁,toks:=tk }:=fun tk=>by
  refine Ft (fun n s'=>∃ i H',Inv (eL X N scope cl P2.objs.size s2 H2 fp) [] (eQ k ix σ) H' s'/\tn i s'.heap/\(∀ b∈fp,H' b=none)/\W i n H') ?_ m0 ⟨0,_,Istart tk,st1,fr1,w0⟩;rintro n s3 ⟨i,H3,I3,st3,fr3,w3⟩
  rcases turn i n H3 w3 with ⟨stop,q⟩ | ⟨go,step⟩
  ·refine bD (T.done (eL X N scope cl P2.objs.size s2 H2 fp) rfl rfl rfl hc i [] s3 _ H3 (fun _ _=>False) I3 (stat fr3) st3 stop) fun r s4 ⟨hr,I4⟩=>?_
   subst hr;obtain ⟨m,hn,_⟩:=I4.loc;refine end_ s2.heap.objs.size P2.objs.size H3 s4 (fin H3 s4 I4 s4.heap (Heap.SameBut.refl ..)) ⟨m,hn⟩ I4.free (Ne.symm (below _ I2.lt)) (Nat.le_trans I2.sz (show s2.heap.objs.size<=P2.objs.size by rw [hCs];exact Nat.le_succ _)) (fun x c e=>?_) (fun p hp=>below _ (Heap.lt_size (I2.pin p hp).1)) (fin H3 s4 I4) q;obtain ⟨v,o,ho,_⟩:=I2.cell x c e;exact below _ (Heap.lt_size ho)
  ·refine bD (T.item (eL X N scope cl P2.objs.size s2 H2 fp) rfl rfl rfl hc i [] s3 _ H3 (fun _ _=>False) I3 (stat fr3) st3 go) fun r s4 ⟨u,hr,h4⟩=>?_
   subst hr;refine bD h4 fun _ s5 ⟨x,H5,I5,r5,y5,st5,fr5⟩=>?_;have I5':=I5.pinned (stat fr5) (T.obj _ _ st5);refine bD (hg cl P2.objs.size s2 H2 fp _ s5 _ H5 x u _ I5' r5 (gk _ _ _ _ (step x H5 y5))) fun _ s6 ⟨σ6,H6,I6,ag,q6⟩=>?_
   have again:∀ {s7:Shared} {H7:Hp} {m':Nat},Inv (eL X N scope cl P2.objs.size s2 H2 fp) ([]++wR fp s5.heap) σ6 H7 s7->m' < n->W (i + 1) m' H7->∃ m,m < n/\∃ i H',Inv (eL X N scope cl P2.objs.size s2 H2 fp) [] (eQ k ix σ) H' s7/\tn i s7.heap/\(∀ b∈fp,H' b=none)/\W i m H':=fun {s7 H7 m'} I7 hm w7=>by
    refine ⟨m',hm,i + 1,H7,(I7.unpinned).weak (by rw [σl];exact (I7.len).symm) (fun j v e=>?_),T.keep _ _ _ st5 fun b hb o e=>(I7.pin (b,o) (List.mem_append_right _ (List.mem_append_right _ (qD hb e)))).1,fun b hb=>?_,w7⟩
    ·by_cases hj:j < k
     ·exfalso
      unfold eQ at e;rw [List.getElem?_append_left (by simpa using hj),List.getElem?_replicate] at e;split at e <;> cases e
     ·rw [ag j (by omega)];exact e
    ·obtain ⟨o,e,d⟩:=T.obj _ _ st5 b hb
     exact (I7.pin (b,o) (List.mem_append_right _ (List.mem_append_right _ (qD hb e)))).2.1
   refine bD (hif cl P2.objs.size s2 H2 fp _ s6 σ6 H6 _ I6 q6) fun ok s7 ⟨H7,I7,q7⟩=>?_
   cases ok with
   | false =>
    obtain ⟨m',hm,w7⟩:=q7;exact again I7 hm w7
   | true =>
    refine bD (he cl P2.objs.size s2 H2 fp _ s7 σ6 H7 _ I7 q7) fun y s8 ⟨yv,H8,I8,r8,ys,hD8,hz8,m',hm,w8⟩=>?_;refine bD (CJ _ s8 σ6 H8 (.ref s2.heap.objs.size) [yv] (.ref s2.heap.objs.size) [y] (fun v H9=>H9=upd H8 s2.heap.objs.size (.lst (ys++[yv]))) I8 rfl (.cons r8 .nil) ⟨_,ys,yv,rfl,rfl,hD8,hz8,rfl⟩) fun _ s9 ⟨_,H9,I9,_,e9⟩=>?_;subst e9;exact again I9 hm w8
 exact codeAny_compStart_list (loop _) (T.self _ 0 _ _ _ st1 (loop _))
theorem PK {k:Nat} {ix:List Nat}
  (hc:X.calm=true) (hi:PI X tg iter wi) (gk:GK k g)
  (hk:scope.kind=.function) (hcell:∀ y∈scope.names,y.2≠.cell) (hnames:∀ y∈scope.names,y.2=.local->scope.names.lookup y.1=some .local)
  (hfree:∀ y∈scope.names,y.2=.free->X.env.kindOf y.1=some .cell\/X.env.kindOf y.1=some .free)
  (hone:∀ y∈scope.names,y.2=.free->scope.names.lookup y.1=some .free)
  (hN:∀ (j:Nat) x,N[k + j]?=some x->∃ i,ix[j]?=some i/\X.N[i]?=some x)
  (hcap:∀ (j:Nat) x,N[k + j]?=some x->scope.names.lookup x=some .free)
  (hlen:N.length=k + ix.length)
  (hg:∀ cl C s H fp,PG (eL X N scope cl C s H fp) tg g)
  (hif:∀ cl C s H fp,Gv (eL X N scope cl C s H fp) ifs tc)
  (he:∀ cl C s H fp,PE (eL X N scope cl C s H fp) elt te)
  (hs:∀ x,foldedSetIterable iter X.env x=pure x:=by intro _;rfl) :
  PE X (.ListComp elt [⟨tg,iter,ifs,0⟩] scope pos) (Dn k ix wi g tc te):=by
 intro pins s σ H Q I h;rw [eval_ListComp];refine Cn (use:=none) hc hi gk hk hcell hnames hfree hone hN hcap hlen hg hif he hs I h fun D C H3 s4 I4 ⟨m,hn⟩ _ _ _ _ _ fin q=>?_;exact ⟨m,hn,fun h' sb=>⟨.ref D,H3,fin h' sb,rfl,q⟩⟩
theorem P9 {spos py:Pos} {k:Nat} {ix:List Nat} {y:Str}
  (hc:X.calm=true) (hi:PI X tg iter wi) (gk:GK k g)
  (hk:scope.kind=.function) (hcell:∀ y∈scope.names,y.2≠.cell) (hnames:∀ y∈scope.names,y.2=.local->scope.names.lookup y.1=some .local)
  (hfree:∀ y∈scope.names,y.2=.free->X.env.kindOf y.1=some .cell\/X.env.kindOf y.1=some .free)
  (hone:∀ y∈scope.names,y.2=.free->scope.names.lookup y.1=some .free)
  (hN:∀ (j:Nat) x,N[k + j]?=some x->∃ i,ix[j]?=some i/\X.N[i]?=some x)
  (hcap:∀ (j:Nat) x,N[k + j]?=some x->scope.names.lookup x=some .free)
  (hlen:N.length=k + ix.length)
  (hg:∀ cl C s H fp,PG (eL X N scope cl C s H fp) tg g)
  (hif:∀ cl C s H fp,Gv (eL X N scope cl C s H fp) ifs tc)
  (he:∀ cl C s H fp,PE (eL X N scope cl C s H fp) elt te)
  (hs:∀ x,foldedSetIterable iter X.env x=pure x) (hsw:swapsWith (.ListComp elt [⟨tg,iter,ifs,0⟩] scope pos) (some (.Name y py)) spos.line X.env=pure true)
  (hNd:X.N.Nodup) (hiy:X.N[i]?=some y) (hy:Loc X.env.scope y) (hf:X.fn y=true\/X.env.scope.names.lookup y=some .local) :
  PS X (.Assign [.Name y py] (.ListComp elt [⟨tg,iter,ifs,0⟩] scope pos) spos) (Il (Dn k ix wi g tc te) (vD i)):=by
 intro pins s σ H D I h;rw [exec_Assign_Name_used _ _ _ _ hsw];refine wpAny_bind (wpAny_standAt (wpAny_bind ?_));show wpAny _ X.A (do let _ <- comprehension (.ListComp elt [⟨tg,iter,ifs,0⟩] scope pos) scope X.env _ (newList []) false (eval iter X.env) (some (assign (.Name y py) X.env))) _ _ s;refine wpAny_bind (wpAny_mono (Cn (use:=some (assign (.Name y py) X.env)) (QQ:=fun _ s'=>SP X pins D .next s') hc hi gk hk hcell hnames hfree hone hN hcap hlen hg hif he hs I h fun A C H3 s4 I4 hn nC nL sC cC pC fin q=>?_) (fun _ s' hq=>wpAny_pure (wpAny_pure hq)) fun _ _ e=>e);show wpAny _ X.A (assign (.Name y py) X.env (.ref A)) _ _ _;refine wpAny_assign_Name (Cf (i:=i) (v:=.ref A) I4 hNd hiy hy rfl (fun s5 I5 ⟨a,sb,ha⟩=>?_) hf);obtain ⟨m,hn⟩:=hn
 have aC:C≠a:=by
  rcases ha with z | z
  ·rw [z];exact nL
  ·exact fun e=>cC y a z e.symm
 refine ⟨m,hn.at' fun o e=>sb.extBut C o aC e,fun h' sb'=>?_⟩;exact ⟨_,H3,I5.turned (t':=s5.toks) (fun b o hb e=>sb'.extBut b o hb e) nC nL (.inr sC) cC pC,q⟩
section
variable {X:Cx}
theorem Pf:dI X (binaryOp .Add) (IX X.K):=by
 intro pins s σ H x y v u Q I rx ry h;obtain ⟨l,b,xs,zs,rfl,rfl,hH,hB,hz,q⟩:=h;cases rx;cases ry;obtain ⟨its,r,p,hl⟩:=I.list hH;obtain ⟨its2,r2,p2,hl2⟩:=I.list hB;obtain ⟨⟨cls,dd,data,sl⟩,n,ho,hc,_,hd⟩:=p;obtain ⟨⟨cls2,dd2,data2,sl2⟩,n2,ho2,hc2,_,hd2⟩:=p2;simp only at hc hd hc2 hd2;subst hc hd hc2 hd2;have q1:=r.length;have q2:=r2.length;have e:its.toArray++its2.toArray=(its++its2).toArray:=by simp
 refine concat_meets ⟨_,ho,rfl⟩ ⟨_,ho2,rfl⟩ noFill_list_add seq_list_add PySem.F.slot_list_add PySem.F.entry_list_add (PySem.F.args_list_add_2 _ _) (list_addW l b its.toArray its2.toArray n n2 dd dd2 sl sl2 (by rw [List.size_toArray,List.size_toArray];omega)) ⟨ho,ho2,?_⟩;rw [e];exact ⟨.ref _,_,I.lnew (t':=s.toks) (r.append r2) (by rw [List.length_append];omega),rfl,q _ I.fresh⟩
theorem NH:dI X (binaryOp .Add) (Ew X.K):=by
 intro pins s σ H x y v u Q I rx ry h;obtain ⟨a,b,xs,ys,rfl,rfl,ha,hb,hz,q0,q1,q2⟩:=h
 by_cases hx:xs=[]
 ·cases rx
  cases ry;obtain ⟨its,r1,p1,_⟩:=I.tuple ha;obtain ⟨its2,r2,p2,_⟩:=I.tuple hb;obtain ⟨⟨cls,dd,data,sl⟩,ho,hc,n,hd⟩:=p1;obtain ⟨⟨cls2,dd2,data2,sl2⟩,ho2,hc2,n2,hd2⟩:=p2;simp only at hc hd hc2 hd2;subst hc hd hc2 hd2;have e:its=[]:=r1.nil_iff.mpr hx;exact concat_meets ⟨_,ho,rfl⟩ ⟨_,ho2,rfl⟩ noFill_tuple_add seq_tuple_add PySem.F.slot_tuple_add PySem.F.entry_tuple_add (PySem.F.args_tuple_add_2 _ _) (tuple_addW0 a b its.toArray its2.toArray n n2 dd dd2 sl sl2 (by rw [e];rfl)) ⟨ho,ho2,.ref b,H,I,rfl,q0 hx⟩
 ·exact PU pins s σ H _ _ v u Q I rx ry ⟨a,b,xs,ys,rfl,rfl,ha,hb,hx,hz,q1 hx,q2 hx⟩
theorem RU:zK X (fun x lo hi H Q=>∃ z:Str,x=.str z/\z.length<=sizeLine/\Q (.str (Txt.slice z lo hi)) H):=by
 intro pins s σ H x v vl vu lo hi sl Q I rx hs pl pu h;obtain ⟨z,rfl,hz,q⟩:=h;obtain ⟨t,rfl⟩:=rx
 refine ⟨"str",_,F.slot_str_getitem.lookup,typeIs_str _ _ _,?_⟩
 have fin:∀ t' k,EP X pins σ Q (.str (Txt.slice z lo hi) t') { s with toks:=k }:=fun t' k=>⟨.str (Txt.slice z lo hi),H,I.tok k,⟨t',rfl⟩,q⟩
 cases pl with
 | none=>cases pu with
  | none=>exact wpAny_getItem_str_slice (l:=none) (u:=none) (st:=none) hs rfl (post_val_or_str ⟨Nat.le_trans (Txt.slice_le z _ _) hz,fun t' k=>fin t' k⟩)
  | int j uj=>exact wpAny_getItem_str_slice (l:=none) (u:=some (j,uj)) (st:=none) hs rfl (post_val_or_str ⟨Nat.le_trans (Txt.slice_le z _ _) hz,fun t' k=>fin t' k⟩)
 | int i ui=>cases pu with
  | none=>exact wpAny_getItem_str_slice (l:=some (i,ui)) (u:=none) (st:=none) hs rfl (post_val_or_str ⟨Nat.le_trans (Txt.slice_le z _ _) hz,fun t' k=>fin t' k⟩)
  | int j uj=>exact wpAny_getItem_str_slice (l:=some (i,ui)) (u:=some (j,uj)) (st:=none) hs rfl (post_val_or_str ⟨Nat.le_trans (Txt.slice_le z _ _) hz,fun t' k=>fin t' k⟩)
theorem Ss:zK X (SW X.K):=P8.or (Te.or RU)
end
structure Dat where
 prog:Program
 w:World
 K:PySem.W.Frag
 mg:Str->Option Value
 base:Heap
 N:List Str
 sc:Scope
 k:Nat
 fn:Bool
 cod:Value:=.none
 qual:Str:=""
structure mU (D:Dat) (X:Cx):Prop where
 prog:X.prog=D.prog
 w:X.w=D.w
 K:X.K=D.K
 mg:X.mg=D.mg
 base:X.base=D.base
 N:X.N=D.N
 sc:X.env.scope=D.sc
 room:cV D.k X.A
 calm:X.calm=true
 xe:X.xe=fun _ _=>False
 fn:D.fn=true->∀ x,X.fn x=true
 cod:D.cod≠.none->X.env.code=D.cod/\X.env.qual=D.qual
 dl:D.fn=true->X.ex=[]/\X.stack=X.env :: X.outer/\X.env.frame=some X.env.locals
def aT (D:Dat) (e:Expr) (t':UE):Prop:=∃ t,(∀ X,mU D X->PE X e t)/\bR D.K t t'
def sQ (D:Dat) (e:Expr) (t':UT):Prop:=∃ t,(∀ X,mU D X->PT X e t)/\kW D.K t t'
def q8 (D:Dat) (e:Expr) (t':UT):Prop:=∃ t,(∀ X,mU D X->PW X e t)/\kW D.K t t'
def mP (D:Dat) (es:List Expr) (t':UA):Prop:=∃ t,(∀ X,mU D X->PA X es t)/\lA D.K t t'
def pZ (D:Dat) (s:Stmt) (t':US):Prop:=∃ t,(∀ X,mU D X->PS X s t)/\k6 D.K t t'
def mI (D:Dat) (s:List Stmt) (t':US):Prop:=∃ t,(∀ X,mU D X->rB X s t)/\k6 D.K t t'
def Gu (D:Dat) (k:Nat) (e:Expr) (g':UG):Prop:=∃ g,(∀ X,mU D X->PG X e g)/\Ab D.K g g'/\GK k g/\∀ x σ H Q Q',(∀ σ2 H2,Q σ2 H2->Q' σ2 H2)->g x σ H Q->g x σ H Q'
def G7 (D:Dat) (k:Nat) (es:List Expr) (g':Am):Prop:=∃ g,(∀ X,mU D X->Ji X es g)/\AZ D.K g g'/\Jo k g/\∀ x σ H Q Q',(∀ σ2 H2,Q σ2 H2->Q' σ2 H2)->g x σ H Q->g x σ H Q'
def zO (D:Dat) (tg e:Expr) (t':UI):Prop:=∃ t,(∀ X,mU D X->PI X tg e t)/\sV D.K t t'
def Ov (D:Dat) (e:Option Expr) (t':UO):Prop:=∃ t,(∀ X,mU D X->PO X e t)/\DN D.K t t'
def IB (D:Dat) (es:List Expr) (t':UT):Prop:=∃ t,(∀ X,mU D X->Gv X es t)/\kW D.K t t'
section
variable {D:Dat} {a b c e o:Expr} {ta tb tc te:UE} {pos:Pos}
variable {x:Str}
theorem uv (i:Nat) (hN:D.N[i]?=some x:=by rfl) (hv:GO D.sc x:=by first | exact Or.inl rfl | exact Or.inr (Or.inl rfl) | exact Or.inr (Or.inr rfl)) (hd:(x == ("__debug__":Str))=false:=by decide)
  (hcd:(x == ("__classdict__":Str))=false:=by decide):aT D (.Name x pos) (mW i) :=
 ⟨_,fun X h=>Kt (by rw [h.N];exact hN) (by rw [h.sc];exact hv) hd hcd,F1 i⟩
theorem aO {i j}:aT D (.Constant (.int i) j pos) (uC (.int i)):=⟨_,fun X h=>SY,GI⟩
theorem UN {i j}:aT D (.Constant (.bool i) j pos) (uC (.bl i)):=⟨_,fun X h=>TN,S4⟩
theorem gL {i j}:aT D (.Constant (.str i) j pos) (uC (.str i)):=⟨_,fun X h=>Ru,OZ⟩
theorem lX {j}:aT D (.Constant .none j pos) (uC .non):=⟨_,fun X h=>R0,QM⟩
theorem Rw {i:Int} {t:Tok} (hm:D.mg x=some (.int i t)) (hg:D.sc.names.lookup x=some .globalImplicit:=by rfl) (hd:(x == ("__debug__":Str))=false:=by decide):aT D (.Name x pos) (uC (.int i)) :=
 ⟨_,fun X h=>GN (v:=.int i) (by show X.env.scope.names.lookup x=_;rw [h.sc];exact hg) (by rw [h.mg];exact hm) ⟨t,rfl⟩ hd,GI⟩
theorem A5 {f:Addr} (hm:D.mg x=some (.ref f)) (hg:D.sc.names.lookup x=some .globalImplicit:=by rfl) (hd:(x == ("__debug__":Str))=false:=by decide):aT D (.Name x pos) (uC (.ref f)) :=
 ⟨_,fun X h=>GN (v:=.ref f) (by show X.env.scope.names.lookup x=_;rw [h.sc];exact hg) (by rw [h.mg];exact hm) rfl hd,Qt⟩
variable {r:R2} {r':dY}
theorem yO {op:Operator} (ho:∀ X,mU D X->dI X (binaryOp op) r) (hr:dG D.K r r') (ha:aT D a ta) (hb:aT D b tb):aT D (.BinOp a op b pos) (l9 r' ta tb):=by
 obtain ⟨x,p,s⟩:=ha;obtain ⟨y,q,r⟩:=hb;exact ⟨_,fun X h=>TC (ho X h) (p X h) (q X h),tY hr s r⟩
theorem kE (ha:aT D a ta) (hb:aT D b tb):aT D (.BinOp a .Sub b pos) (l9 (sN fun i j=>.int (i - j)) ta tb):=yO (fun _ _=>Q1) Em ha hb
theorem uJ (ha:aT D a ta) (hb:aT D b tb):aT D (.BinOp a .Mod b pos) (l9 (uI (fun _ j=>0 < j) fun i j=>.int (i % j)) ta tb):=yO (fun _ _=>QV) sI ha hb
theorem E6 (ha:aT D a ta) (hb:aT D b tb):aT D (.BinOp a .Pow b pos) (l9 (uI RR fun i j=>.int (i ^ j.toNat)) ta tb):=yO (fun _ _=>Rk) sI ha hb
def uZ (o:Bool):dY:=fun x y M Q=>match x,y with
 | .int i,.int j=>Q (.int (i + j)) M
 | .str i,.str j=>i.length + j.length<=sizeLine/\Q (.str (i++j)) M
 | .tup us,.tup ws=>us.length + ws.length<=sizeLine/\Q (.tup (us++ws)) M
 | x,y=>qB o x y M Q
def Om (K:PySem.W.Frag):R2:=fun x y H Q=>vW (fun i j=>.int (i + j)) x y H Q\/((∃ i j,x=.str i/\y=.str j/\i.length + j.length<=sizeLine/\Q (.str (i++j)) H)\/(Ew K x y H Q\/IX K x y H Q))
theorem Pp {K:PySem.W.Frag} {o:Bool}:dG K (Om K) (uZ o):=fun x y u w H M Q' rm ru rw h Q c=>by
 unfold uZ at h;split at h
 ·exact .inl (Em x y _ _ H M Q' rm ru rw h Q c)
 ·exact .inr (.inl (NQ x y _ _ H M Q' rm ru rw h Q c))
 ·exact .inr (.inr (.inl (Mg x y _ _ H M Q' rm ru rw h Q c)))
 ·exact .inr (.inr (.inr (LO x y _ _ H M Q' rm ru rw h Q c)))
theorem cQ (own:Bool:=false) (ha:aT D a ta) (hb:aT D b tb):aT D (.BinOp a .Add b pos) (l9 (uZ own) ta tb) :=
 yO (r:=Om D.K) (fun X h=>by have:=SG.or (Iy.or ((NH (X:=X)).or (Pf (X:=X))));rw [h.K] at this;exact this) Pp ha hb
theorem Se (ha:aT D a ta):aT D (.UnaryOp .USub a pos) (Ci (fun x M Q=>match x with | .int i=>Q (.int (-i)) M | _=>False) ta):=by
 obtain ⟨x,p,s⟩:=ha;refine ⟨_,fun X h=>Ua R5 (p X h),RW (fun x u H M Q' rm ru h Q c=>?_) s⟩
 cases u with
 | int i=>exact ⟨i,ru.int,c.here rm c8 h⟩
 | _=>exact h.elim
variable {op:CmpOp}
theorem Td (ho:∀ X,mU D X->dI X (compareOp op) r) (hr:dG D.K r r') (ha:aT D a ta) (hb:aT D b tb) (hm:behindInMarks op b=false):aT D (.Compare a [op] [b] pos) (l9 r' ta tb):=by
 obtain ⟨x,p,s⟩:=ha;obtain ⟨y,q,r⟩:=hb;exact ⟨_,fun X h=>Pk (ho X h) (p X h) (q X h) hm,tY hr s r⟩
theorem Rx (ho:∀ X,mU D X->dI X (compareOp op) r) (hr:dG D.K r r') (ha:aT D a ta) (hb:aT D b tb) (hm:behindInMarks op b=false):sQ D (.Compare a [op] [b] pos) (qA (l9 r' ta tb)):=by
 obtain ⟨x,p,s⟩:=ha;obtain ⟨y,q,r⟩:=hb;exact ⟨_,fun X h=>Qu (ho X h) (p X h) (q X h) hm,Lw (tY hr s r)⟩
abbrev Et:dY:=sN fun i j=>.bl (decide (i < j))
abbrev ER:dY:=sN fun i j=>.bl (decide (i<=j))
abbrev Fe:dY:=sN fun i j=>.bl (decide (j < i))
abbrev El:dY:=sN fun i j=>.bl (decide (j<=i))
structure nS (D:Dat) (op:CmpOp) (r':dY):Prop where
 ex:∃ r:R2,(∀ X,mU D X->dI X (compareOp op) r)/\dG D.K r r'
theorem Ez:nS D .Lt Et:=⟨⟨_,fun _ _=>N5,pD⟩⟩
theorem SM:nS D .LtE ER:=⟨⟨_,fun _ _=>Ur,pD⟩⟩
theorem Mu:nS D .Gt Fe:=⟨⟨_,fun _ _=>Us,pD⟩⟩
theorem SN:nS D .GtE El:=⟨⟨_,fun _ _=>Ud,pD⟩⟩
theorem G9:nS D .Is uO:=⟨⟨_,fun _ _=>SD,Qy⟩⟩
theorem t6:nS D .IsNot qG:=⟨⟨_,fun _ _=>OU,NV⟩⟩
def BD (neg:Bool):dY:=fun x y M Q=>match x,y with
 | .str i,.str j=>Q (.bl (if neg then !(!(Builtin.Str.occurrences j i 0 j.length 1).isEmpty) else !(Builtin.Str.occurrences j i 0 j.length 1).isEmpty)) M
 | _,_=>False
theorem MS (k:nS D op r') (ha:aT D a ta) (hb:aT D b tb) (hm:behindInMarks op b=false:=by first | exact Ko _ | with_unfolding_all rfl):aT D (.Compare a [op] [b] pos) (l9 r' ta tb) :=
 let ⟨_,h1,h2⟩:=k.ex;Td h1 h2 ha hb hm
theorem cB (k:nS D op r') (ha:aT D a ta) (hb:aT D b tb) (hm:behindInMarks op b=false:=by first | exact Ko _ | with_unfolding_all rfl):sQ D (.Compare a [op] [b] pos) (qA (l9 r' ta tb)) :=
 let ⟨_,h1,h2⟩:=k.ex;Rx h1 h2 ha hb hm
theorem TR {op':CmpOp} {r:dY} (k:nS D op r) (k':nS D op' r') (ha:aT D a ta) (hb:aT D b tb) (hc:aT D c tc) (hm:lastMarks [op,op'] [b,c]=false:=by with_unfolding_all rfl) :
  aT D (.Compare a [op,op'] [b,c] pos) (o7 r r' ta tb tc):=by
 obtain ⟨x,p,s⟩:=ha;obtain ⟨y,q,r⟩:=hb;obtain ⟨z,u,v⟩:=hc;obtain ⟨_,h1,h2⟩:=k.ex;obtain ⟨_,h3,h4⟩:=k'.ex;exact ⟨_,fun X h=>Nx (h1 X h) (h3 X h) (p X h) (q X h) (u X h) hm,K1 h2 h4 s r v⟩
theorem Bi (ha:aT D a ta) (he:∀ env whole,isTrue a env whole=(do let v <- whole;standAt a.pos;holding [v] (truthy v)):=by intro _ _;rfl):sQ D a (xB ta):=by
 obtain ⟨x,p,s⟩:=ha;refine ⟨_,fun X h=>?_,QH s⟩
 have:=Ni (p X h) (he X.env)
 rw [h.K] at this;exact this
theorem q8.pt {t:UT} (h:q8 D a t):sQ D a t:=let ⟨_,p,s⟩:=h;⟨_,fun X h=>(p X h).pt,s⟩
variable {rest:List Expr} {tA tB':UT}
theorem yI (ha:sQ D a tA):q8 D (.BoolOp .And [a] pos) tA:=let ⟨_,p,s⟩:=ha;⟨_,fun X h=>Px (p X h),s⟩
theorem Ek (ha:sQ D a tA):q8 D (.BoolOp .Or [a] pos) tA:=let ⟨_,p,s⟩:=ha;⟨_,fun X h=>SV (p X h),s⟩
theorem AS (ha:sQ D a tA) (hb:q8 D (.BoolOp .And (b :: rest) pos) tB'):q8 D (.BoolOp .And (a :: b :: rest) pos) (xU tA tB'):=let ⟨_,p,s⟩:=ha;let ⟨_,q,r⟩:=hb;⟨_,fun X h=>RE (p X h) (q X h),OP s r⟩
theorem IM (ha:sQ D a tA) (hb:q8 D (.BoolOp .Or (b :: rest) pos) tB'):q8 D (.BoolOp .Or (a :: b :: rest) pos) (Cg tA tB'):=let ⟨_,p,s⟩:=ha;let ⟨_,q,r⟩:=hb;⟨_,fun X h=>Uo (p X h) (q X h),RD s r⟩
theorem SK (ha:sQ D a tA):sQ D (.UnaryOp .Not a pos) (xR tA):=let ⟨_,p,s⟩:=ha;⟨_,fun X h=>Rh (p X h),Pz s⟩
theorem Q4 {op} (ha:aT D a ta):aT D (.BoolOp op [a] pos) ta:=let ⟨_,p,s⟩:=ha;⟨_,fun X h=>SO (p X h),s⟩
theorem RI (ha:aT D a ta) (hb:aT D (.BoolOp .And (b :: rest) pos) tb):aT D (.BoolOp .And (a :: b :: rest) pos) (rZ ta tb):=let ⟨_,p,s⟩:=ha;let ⟨_,q,r⟩:=hb;⟨_,fun X h=>Sq (p X h) (q X h),MF s r⟩
theorem Dt (hc:sQ D c tA) (ha:aT D a ta) (hb:aT D b tb):aT D (.IfExp c a b pos) (CH tA ta tb):=let ⟨_,p,s⟩:=ha;let ⟨_,q,r⟩:=hb;let ⟨_,u,v⟩:=hc;⟨_,fun X h=>ML (u X h) (p X h) (q X h),S9 v s r⟩
variable {es:List Expr} {tas:UA}
theorem aB:mP D [] sU:=⟨_,fun X h=>Sb,Pj⟩
theorem aA (ha:aT D e te) (hr:mP D es tas) (hs:∀ env,starEach (e :: es) env=(false,eval e env) :: starEach es env:=by intro _;rfl):mP D (e :: es) (mE te tas):=let ⟨_,p,s⟩:=ha;let ⟨_,q,r⟩:=hr;⟨_,fun X h=>O3 (p X h) (q X h) (hs _),Nc s r⟩
theorem bN {x1} (h:mP D es tas):aT D (.Tuple es x1 pos) (xG tas):=let ⟨_,p,s⟩:=h;⟨_,fun X h=>Tt (p X h),PQ s⟩
theorem cG (own:Bool:=false) (h:mP D es tas):aT D (.List es pos) (wB own tas):=let ⟨_,p,s⟩:=h;⟨_,fun X h=>R4 (p X h),P0 s⟩
theorem aP (ha:aT D a ta) (hb:aT D b tb) (hs:GR b:=by intro _ _;rfl):aT D (.Subscript a b pos) (l9 Ax ta tb):=by
 obtain ⟨x,p,s⟩:=ha;obtain ⟨y,q,r⟩:=hb;refine ⟨_,fun X h=>?_,tY S5 s r⟩
 have:=T8 (pos:=pos) Sj (p X h) (q X h) hs
 rw [h.K] at this;exact this
theorem qP:Ov D none mS:=⟨_,fun X h=>PV,HD⟩
theorem qM (h:aT D e te):Ov D (some e) (sF te):=let ⟨_,p,s⟩:=h;⟨_,fun X h=>O6 (p X h),NT s⟩
variable {st:Stmt} {sts body body2:List Stmt} {t u:US}
theorem bO:mI D [] cE:=⟨_,fun X h=>P6,LG⟩
theorem aE (h1:pZ D st t) (h2:mI D sts u):mI D (st :: sts) (zV t u):=let ⟨_,p,s⟩:=h1;let ⟨_,q,r⟩:=h2;⟨_,fun X h=>MW (p X h) (q X h),QN s r⟩
theorem aJ (h1:pZ D st t):mI D [st] t:=let ⟨_,p,s⟩:=h1;⟨_,fun X h=>Pg (p X h),s⟩
theorem dM (he:aT D e te) (hs:∀ env,swapsWith e none pos.line env=pure false:=by intro _;rfl):pZ D (.Expr e pos) (eK te):=let ⟨_,p,s⟩:=he;⟨_,fun X h=>Pl (p X h) (hs _),Nv s⟩
theorem bC (he:aT D e te):pZ D (.Return (some e) pos) (bU te):=let ⟨_,p,s⟩:=he;⟨_,fun X h=>Sd (p X h),OV s⟩
theorem cF {c:Expr} {tc:UT} (hc:sQ D c tc) (ha:mI D body t) (hb:mI D body2 u):pZ D (.If c body body2 pos) (wF tc t u):=let ⟨_,p,s⟩:=ha;let ⟨_,q,r⟩:=hb;let ⟨_,x,y⟩:=hc;⟨_,fun X h=>TK (x X h) (p X h) (q X h),QJ y s r⟩
theorem MQ {c:Expr} {tc:UT} (hc:sQ D c tc) (hb:mI D body t):pZ D (.While c body [] pos) (Fg tc t):=by
 obtain ⟨_,p,s⟩:=hb;obtain ⟨_,x,y⟩:=hc;exact ⟨_,fun X h=>Nk (by rw [h.xe];exact PassesOwn.never) (x X h) (p X h),Kp y s⟩
variable {k:Nat} {g:UG} {gs:Am}
theorem aX (i:Nat) (hN:D.N.Nodup) (hi:D.N[i]?=some x:=by rfl) (hx:Loc D.sc x:=by first | exact Or.inl rfl | exact Or.inr rfl) (hik:i < k:=by decide) (hf:D.fn=true\/D.sc.names.lookup x=some .local:=by first | exact .inl rfl | exact .inr rfl):Gu D k (.Name x pos) (hName i) :=
 ⟨_,fun X h=>P4 (i:=i) (by rw [h.N];exact hN) (by rw [h.N];exact hi) (by rw [h.sc];exact hx) (by rcases hf with z | z;exact .inl (h.fn z x);exact .inr (by rw [h.sc];exact z)),xJ i,Qc hik,R7⟩
theorem kJ:G7 D k [] mN:=⟨_,fun X h=>PC,LI,Tf,Ui⟩
theorem bV (h1:Gu D k e g) (h2:G7 D k es gs) (hs:∀ env,(assignEach (e :: es) env).map (·.2)=assign e env :: (assignEach es env).map (·.2):=by intro _;rfl):G7 D k (e :: es) (j5 g gs) :=
 let ⟨_,p,s,x,y⟩:=h1;let ⟨_,q,r,z,w⟩:=h2;⟨_,fun X h=>LB (p X h) (q X h) (hs _),KI s r,OS x z w y,Ta y w⟩
theorem lZ {kk:Nat} {n:Nat} (h:G7 D k es gs) (hn:∀ env,(assignEach es env).length=n:=by intro _;rfl) (hst:∀ env,(assignEach es env).findIdx? (·.1)=none:=by intro _;rfl):Gu D k (.Tuple es kk pos) (kO n gs):=by
 obtain ⟨_,p,s,x,y⟩:=h;refine ⟨_,fun X h=>?_,LD s,Tw x,TZ y⟩
 have:=S3 (pos:=pos) (k:=kk) h.calm (p X h) (hn _) (hst _)
 rw [h.K] at this;exact this
theorem aR (i:Nat) {pos':Pos} (hN:D.N.Nodup) (he:aT D e te) (hi:D.N[i]?=some x:=by rfl) (hx:Loc D.sc x:=by first | exact Or.inl rfl | exact Or.inr rfl) (hs:∀ env,swapsWith e (some (.Name x pos')) pos.line env=pure false:=by intro _;rfl)
  (hf:D.fn=true\/D.sc.names.lookup x=some .local:=by first | exact .inl rfl | exact .inr rfl):pZ D (.Assign [.Name x pos'] e pos) (aY te (hName i)):=by
 obtain ⟨_,p,s⟩:=he;exact ⟨_,fun X h=>SH (i:=i) (by rw [h.N];exact hN) (by rw [h.N];exact hi) (by rw [h.sc];exact hx) (p X h) (hs _) (by rcases hf with z | z;exact .inl (h.fn z x);exact .inr (by rw [h.sc];exact z)),GG s (xJ i)⟩
variable {tg iter:Expr} {wi:UI}
theorem eA (h:aT D e te):zO D tg e (p8 te):=by
 obtain ⟨_,p,s⟩:=h;refine ⟨_,fun X h=>?_,Nf s⟩
 have:=Rm (tg:=tg) (p X h)
 rw [h.K] at this;exact this
theorem tO {p:Pos} {ta:UA} (hm:D.mg "range"=none) (ha:mP D [a] ta) (hg:D.sc.names.lookup ("range":Str)=some .globalImplicit:=by rfl) (hs:∀ env,starEach [a] env=[(false,eval a env)]:=by intro _;rfl):zO D tg (.Call (.Name "range" p) [a] [] pos) (sL ta):=by
 obtain ⟨_,q,s⟩:=ha;exact ⟨_,fun X h=>Li (by show X.env.scope.names.lookup _=_;rw [h.sc];exact hg) (by rw [h.mg];exact hm) (q X h) (hs _),NW s⟩
theorem eI (hi:zO D tg iter wi) (hg:Gu D k tg g) (hb:mI D body t) (hs:∀ env x,foldedSetIterable iter env x=pure x:=by intro _ _;rfl):pZ D (.For tg iter body [] pos) (LZ wi g t):=by
 obtain ⟨_,p,s⟩:=hi;obtain ⟨_,q,r,_⟩:=hg;obtain ⟨_,x,y⟩:=hb;exact ⟨_,fun X h=>RJ (by rw [h.xe];exact PassesOwn.never) h.calm (p X h) (q X h) (x X h) (hs _),PF s r y⟩
end
structure Callee (P:Program) (w:World) (K:PySem.W.Frag) (mg:Str->Option Value) (base:Heap) (j:Nat) (x:Str) (sp:bE) (dus:List U):Prop where
 ex:∃ f fd ps dvs ds,fY P w K mg base mB j f fd ps (cP K sp)/\mg x=some (.ref f)/\PySem.W.keepIn K (.ref f)=true/\Binds K fd ps ds/\Vals dvs ds/\∀ H M,aI K H M dus dvs
abbrev Vt (D:Dat):=Callee D.prog D.w D.K D.mg D.base
section
variable {D:Dat} {a b c e o:Expr} {ta tb tc te:UE} {pos p:Pos} {es:List Expr} {tas:UA} {x:Str}
theorem aK {sp:bE} {dus:List U} {j:Nat} (F:Vt D j x sp dus) (ha:mP D (e :: es) tas) (hj:j<=D.k:=by first | exact Nat.le_refl _ | (dsimp only;omega) | omega | (dsimp only [bZ];omega)) (hg:D.sc.names.lookup x=some .globalImplicit:=by rfl) (hdb:(x == ("__debug__":Str))=false:=by decide)
  (he:∀ env,starEach (e :: es) env=(false,eval e env) :: starEach es env:=by intro _;rfl) (hpl:∀ env,(backTo pos (starEach es env)).any (·.1)=false:=by intro _;rfl):aT D (.Call (.Name x p) (e :: es) [] pos) (oW sp dus tas):=by
 obtain ⟨f,fd,ps,dvs,ds,F,hm,kp,hb,hd,hr⟩:=F.ex;obtain ⟨_,q,s⟩:=ha;refine ⟨Jd (cP D.K sp) dvs E0 _,fun X h=>?_,MX hr s⟩;have F':fY X.prog X.w X.K X.mg X.base mB j f fd ps (cP D.K sp):=by rw [h.prog,h.w,h.K,h.mg,h.base];exact F
 exact Qq F' (h.room.mono hj) (by show X.env.scope.names.lookup x=_;rw [h.sc];exact hg) (by rw [h.mg];exact hm) (by rw [h.K];exact kp) (by rw [h.K];exact hb) hd AV (q X h) hdb (he _) (hpl _)
structure CL (D:Dat) (f:Value) (r':List U->aG->UK->Prop):Prop where
 ex:∃ r,(∀ X,mU D X->kT X f r)/\yX D.K r r'
variable {r':List U->aG->UK->Prop}
theorem fB {id:String} (k:CL D (.builtin id) r') (hm:D.mg x=none) (ha:mP D (e :: es) tas) (hv:bootBuiltins x=some (.builtin id):=by kernel_rfl) (hg:D.sc.names.lookup x=some .globalImplicit:=by rfl) (hn:x≠"__name__":=by decide) (hdb:(x == ("__debug__":Str))=false:=by decide)
  (he:∀ env,starEach (e :: es) env=(false,eval e env) :: starEach es env:=by intro _;rfl) (hpl:∀ env,(backTo pos (starEach es env)).any (·.1)=false:=by intro _;rfl):aT D (.Call (.Name x p) (e :: es) [] pos) (As r' tas):=by
 obtain ⟨r,h1,h2⟩:=k.ex;obtain ⟨_,q,s⟩:=ha;exact ⟨_,fun X h=>Ma (h1 X h) (by show X.env.scope.names.lookup x=_;rw [h.sc];exact hg) (by rw [h.mg];exact hm) hv (q X h) hn hdb (he _) (hpl _),J7 h2 s⟩
variable {T:String}
theorem wW (k:CL D (.type T) r') (hm:D.mg x=none) (ha:mP D (e :: es) tas) (hv:bootBuiltins x=some (.type T):=by kernel_rfl) (hg:D.sc.names.lookup x=some .globalImplicit:=by rfl) (hn:x≠"__name__":=by decide) (hdb:(x == ("__debug__":Str))=false:=by decide)
  (he:∀ env,starEach (e :: es) env=(false,eval e env) :: starEach es env:=by intro _;rfl) (hpl:∀ env,(backTo pos (starEach es env)).any (·.1)=false:=by intro _;rfl):aT D (.Call (.Name x p) (e :: es) [] pos) (As r' tas):=by
 obtain ⟨r,h1,h2⟩:=k.ex;obtain ⟨_,q,s⟩:=ha;exact ⟨_,fun X h=>JR (h1 X h) (by show X.env.scope.names.lookup x=_;rw [h.sc];exact hg) (by rw [h.mg];exact hm) hv (q X h) hn hdb (he _) (hpl _),J7 h2 s⟩
theorem eC:CL D (.builtin "len") vO:=⟨⟨_,fun X h=>by have:=NX (X:=X);rw [h.K] at this;exact this,O8⟩⟩
theorem T5:CL D (.builtin "min") (qI fun i j=>.int (if j < i then j else i)):=⟨⟨_,fun X h=>Kr h.calm,Lr⟩⟩
theorem EO (own:Bool:=false):CL D (.type "list") (qF own):=⟨⟨_,fun X h=>by have:=En (X:=X);rw [h.K] at this;exact this,NY⟩⟩
theorem t5:CL D (.type "tuple") mZ:=⟨⟨_,fun X h=>by have:=CY (X:=X);rw [h.K] at this;exact this,JO⟩⟩
def Bh:List (String × String × Bool):=[("NoneType","bool",false),("NoneType","int",false),("NoneType","str",false),("NoneType","tuple",false),("NoneType","list",false),("NoneType","dict",false),("bool","bool",true),("bool","int",true),("bool","str",false),("bool","tuple",false),("bool","list",false),("bool","dict",false),("int","bool",false),("int","int",true),("int","str",false),("int","tuple",false),("int","list",false),("int","dict",false),("str","bool",false),("str","int",false),("str","str",true),("str","tuple",false),("str","list",false),("str","dict",false),("tuple","bool",false),("tuple","int",false),("tuple","str",false),("tuple","tuple",true),("tuple","list",false),("tuple","dict",false),("list","bool",false),("list","int",false),("list","str",false),("list","tuple",false),("list","list",true),("list","dict",false),("dict","bool",false),("dict","int",false),("dict","str",false),("dict","tuple",false),("dict","list",false),("dict","dict",true)]
variable {K:PySem.W.Frag}
theorem JN:∀ r∈Bh,PySem.W.kitOne K (.type r.1) (.type r.2.1)=some r.2.2:=by
 intro r hr;simp only [Bh,List.mem_cons,List.not_mem_nil,or_false] at hr
 rcases hr with rfl | rfl | rfl | rfl | rfl | rfl | rfl | rfl | rfl | rfl | rfl | rfl | rfl | rfl | rfl | rfl | rfl | rfl | rfl | rfl | rfl | rfl | rfl | rfl | rfl | rfl | rfl | rfl | rfl | rfl | rfl | rfl | rfl | rfl | rfl | rfl | rfl | rfl | rfl | rfl | rfl | rfl <;> first | rfl | kernel_rfl
def bF (t T:String):Option Bool:=(Bh.find? fun r=>r.1 == t && r.2.1 == T).map (·.2.2)
theorem Uy {t:String} {b:Bool} (h:bF t T=some b):PySem.W.kitOne K (.type t) (.type T)=some b:=by
 unfold bF at h
 cases e:Bh.find? fun r=>r.1 == t && r.2.1 == T with
 | none=>rw [e] at h;cases h
 | some r =>
  rw [e] at h;cases h;have h1:=List.find?_some e;have h2:=JN (K:=K) r (List.mem_of_find?_eq_some e);simp only [Bool.and_eq_true,beq_iff_eq] at h1;rw [h1.1,h1.2] at h2;exact h2
def yP:List U->aG->UK->Prop:=fun us M Q=>match us with
 | [x,.ty T]=>match zU M x with
  | some t=>match bF t T with
   | some b=>Q (.bl b) M
   | none=>False
  | none=>False
 | _=>False
def DI:List U->Option (List Bool)
 | []=>some []
 | .bl b :: r=>(DI r).map (b :: ·)
 | _=>none
def BP:List U->aG->UK->Prop:=fun us M Q=>match us with
 | [x]=>match view M x with
  | .lst ws=>match DI ws with
   | some bs=>Q (.bl (bs.all fun b=>b)) M
   | none=>False
  | _=>False
 | _=>False
theorem NL {K:PySem.W.Frag} {H:Hp} {M:aG}:∀ {us:List U} {vs:List V} {bs:List Bool},aI K H M us vs->DI us=some bs->vs=bs.map V.bl
 | [],_,_,r,h=>by cases h;exact r.inv_nil
 | u :: us,_,bs,r,h=>by
  obtain ⟨v,vs',rfl,a,b⟩:=r.inv_cons
  cases u with
  | bl y =>
   simp only [DI] at h
   cases e:DI us with
   | none=>rw [e] at h;cases h
   | some cs =>
    rw [e] at h;cases h;rw [NL b e,a.bl];rfl
  | _=>cases h
variable {apos:Pos}
theorem jW (ho:aT D o ta) (ha:mP D [e] tas) (hbase:∀ env,attributeBase o "append" env (eval o env)=eval o env:=by intro _;rfl)
  (hfew:∀ env,((backTo pos (starEach [e] env)).all (fun x=>!x.1) && (backToKw pos (keywordEach [] env)).all (fun x=>x.1.isSome) && decide ([e].length + ([]:List Keyword).length + (if ([]:List Keyword).isEmpty then 0 else 1) < 30))=true:=by intro _;rfl)
  (hline:(apos.endLine == pos.line)=true:=by rfl) (hs:∀ env,starEach [e] env=[(false,eval e env)]:=by intro _;rfl):aT D (.Call (.Attribute o "append" apos) [e] [] pos) (zQ lO ta tas):=by
 obtain ⟨_,p,s⟩:=ho;obtain ⟨_,q,r⟩:=ha;refine ⟨_,fun X h=>?_,EH Hw s r⟩
 have:=IG (cpos:=pos) (apos:=apos) PySem.F.plainAttrs_list PySem.F.slot_list_append PySem.F.type_list_append CJ (p X h) (q X h) (hbase _) (hfew _) hline (hs _) (by rfl)
 rw [h.K] at this;exact this
theorem SI (ho:aT D o ta) (hbase:∀ env,attributeBase o "pop" env (eval o env)=eval o env:=by intro _;rfl)
  (hline:(apos.endLine == pos.line)=true:=by rfl):aT D (.Call (.Attribute o "pop" apos) [] [] pos) (wY vS ta):=by
 obtain ⟨_,p,s⟩:=ho;refine ⟨_,fun X h=>?_,Qv Qj s⟩
 have:=QY (cpos:=pos) (apos:=apos) PySem.F.plainAttrs_list PySem.F.slot_list_pop PySem.F.type_list_pop Rg (p X h) (hbase _) hline
 rw [h.K] at this;exact this
def dX (scope sc:Scope):Scope :=
 { scope with names:=scope.names.map fun (n,k)=>if (k == .free && sc.kind == .function && sc.names.lookup n == some .cell) then (n,.cell) else (n,k) }
def bZ (D:Dat) (N:List Str) (scope:Scope):Dat:={ D with N:=N,sc:=dX scope D.sc,fn:=false,cod:=.none }
theorem mU.comp {X:Cx} (h:mU D X) (N:List Str) (scope:Scope) (cl:List (Str × Addr)) (C:Addr) (s:Shared) (H:Hp) (fp:List Addr):mU (bZ D N scope) (eL X N scope cl C s H fp) :=
 ⟨h.prog,h.w,h.K,h.mg,h.base,rfl,by show dX scope X.env.scope=dX scope D.sc;rw [h.sc],h.room,h.calm,rfl,(fun z=>by cases z),(fun z=>absurd rfl z),(fun z=>by cases z)⟩
theorem lH:IB D [] (fun _ M Q=>Q true M):=⟨RP,fun X h=>Qw,fun σ τ H M Q' rs rm q Q c=>c true M H (aQ.refl _ _) rm q⟩
theorem yH {t:UT} (h:sQ D c t):IB D [c] t:=let ⟨_,p,s⟩:=h;⟨_,fun X h=>PN (p X h),s⟩
variable {scope:Scope} {tg iter elt:Expr} {ifs:List Expr} {wi:UI} {g:UG} {tcs:UT}
theorem nY (own:Bool) (N:List Str) (k:Nat) (ix:List Nat) (hi:zO D tg iter wi) (hg:Gu (bZ D N scope) k tg g) (hif:IB (bZ D N scope) ifs tcs) (he:aT (bZ D N scope) elt te)
  (hk:scope.kind=.function:=by rfl) (hcell:∀ y∈scope.names,y.2≠.cell:=by first | decide +kernel | (dsimp only;decide +kernel) | (dsimp only [bZ,dX];decide +kernel)) (hnames:∀ y∈scope.names,y.2=.local->scope.names.lookup y.1=some .local:=by first | decide +kernel | (dsimp only;decide +kernel) | (dsimp only [bZ,dX];decide +kernel))
  (hfree:∀ y∈scope.names,y.2=.free->D.sc.names.lookup y.1=some .cell\/D.sc.names.lookup y.1=some .free:=by first | decide +kernel | (dsimp only;decide +kernel) | (dsimp only [bZ,dX];decide +kernel)) (hone:∀ y∈scope.names,y.2=.free->scope.names.lookup y.1=some .free:=by first | decide +kernel | (dsimp only;decide +kernel) | (dsimp only [bZ,dX];decide +kernel))
  (hN:ix.map (fun i=>D.N[i]?)=(N.drop k).map some:=by rfl) (hcap:∀ x∈N.drop k,scope.names.lookup x=some .free:=by first | decide +kernel | (dsimp only;decide +kernel) | (dsimp only [bZ,dX];decide +kernel)) (hlen:N.length=k + ix.length:=by rfl)
  (hs:∀ env x,foldedSetIterable iter env x=pure x:=by intro _ _;rfl):aT D (.ListComp elt [⟨tg,iter,ifs,0⟩] scope pos) (sO own k ix wi g tcs te):=by
 obtain ⟨_,p1,s1⟩:=hi;obtain ⟨_,p2,s2,gk,_⟩:=hg;obtain ⟨_,p3,s3⟩:=hif;obtain ⟨_,p4,s4⟩:=he
 have hN':∀ (j:Nat) x,N[k + j]?=some x->∃ i,ix[j]?=some i/\D.N[i]?=some x:=fun j x e=>by
  have e1:((N.drop k).map some)[j]?=some (some x):=by rw [List.getElem?_map,List.getElem?_drop,e];rfl
  rw [<- hN,List.getElem?_map] at e1
  cases q:ix[j]? with
  | none=>rw [q] at e1;cases e1
  | some i=>rw [q] at e1;exact ⟨i,rfl,Option.some.inj e1⟩
 have hcap':∀ (j:Nat) x,N[k + j]?=some x->scope.names.lookup x=some .free:=fun j x e=>hcap x (List.mem_of_getElem? (i:=j) (by rw [List.getElem?_drop];exact e))
 refine ⟨_,fun X h=>PK (N:=N) (k:=k) (ix:=ix) h.calm (p1 X h) gk hk hcell hnames (fun y hy e=>by show X.env.scope.names.lookup y.1=_\/X.env.scope.names.lookup y.1=_;rw [h.sc];exact hfree y hy e) hone (fun j x e=>by rw [h.N];exact hN' j x e) hcap' hlen
  (fun cl C s H fp=>p2 _ (h.comp N scope cl C s H fp)) (fun cl C s H fp=>p3 _ (h.comp N scope cl C s H fp)) (fun cl C s H fp=>p4 _ (h.comp N scope cl C s H fp)) (hs _),E1 s1 s2 s3 s4⟩
variable {py:Pos} {y:Str}
theorem Mf {gens:List Comprehension} {pos:Pos} {line:Nat} {env:Env} (h1:env.scope.kind=.function) (h2:env.scope.names.lookup y=some .local) (h3:(py.line == pos.line && !(scope.names.any fun (n,k)=>n == y && (k == .local || k == .cell)))=true) :
  swapsWith (.ListComp elt gens scope pos) (some (.Name y py)) line env=pure true:=by
 have e1:(env.blockKind == .function)=true:=by first | (unfold Env.blockKind;rw [h1];rfl) | (unfold Env.blockKind;simp [h1])
 have e2:(env.kindOf y == some .local)=true:=by unfold Env.kindOf;rw [h2];rfl
 show pure (env.blockKind == .function && env.kindOf y == some .local && py.line == pos.line && !(scope.names.any fun (n,k)=>n == y && (k == .local || k == .cell)))=pure true;rw [e1,e2];simp only [Bool.and_eq_true] at h3;rw [h3.1,h3.2];rfl
theorem qL (i:Nat) {spos:Pos} (hNd:D.N.Nodup) (own:Bool) (N:List Str) (k:Nat) (ix:List Nat) (hi:zO D tg iter wi) (hg:Gu (bZ D N scope) k tg g) (hif:IB (bZ D N scope) ifs tcs) (he:aT (bZ D N scope) elt te)
  (hk:scope.kind=.function:=by rfl) (hcell:∀ y∈scope.names,y.2≠.cell:=by first | decide +kernel | (dsimp only;decide +kernel) | (dsimp only [bZ,dX];decide +kernel)) (hnames:∀ y∈scope.names,y.2=.local->scope.names.lookup y.1=some .local:=by first | decide +kernel | (dsimp only;decide +kernel) | (dsimp only [bZ,dX];decide +kernel))
  (hfree:∀ y∈scope.names,y.2=.free->D.sc.names.lookup y.1=some .cell\/D.sc.names.lookup y.1=some .free:=by first | decide +kernel | (dsimp only;decide +kernel) | (dsimp only [bZ,dX];decide +kernel)) (hone:∀ y∈scope.names,y.2=.free->scope.names.lookup y.1=some .free:=by first | decide +kernel | (dsimp only;decide +kernel) | (dsimp only [bZ,dX];decide +kernel))
  (hN:ix.map (fun i=>D.N[i]?)=(N.drop k).map some:=by rfl) (hcap:∀ x∈N.drop k,scope.names.lookup x=some .free:=by first | decide +kernel | (dsimp only;decide +kernel) | (dsimp only [bZ,dX];decide +kernel)) (hlen:N.length=k + ix.length:=by rfl)
  (hs:∀ env x,foldedSetIterable iter env x=pure x:=by intro _ _;rfl) (hl1:D.sc.kind=.function:=by rfl) (hl2:D.sc.names.lookup y=some .local:=by rfl) (hl3:(py.line == pos.line && !(scope.names.any fun (n,k)=>n == y && (k == .local || k == .cell)))=true:=by decide +kernel)
  (hiy:D.N[i]?=some y:=by rfl) (hy:Loc D.sc y:=by first | exact Or.inl rfl | exact Or.inr rfl) (hf:D.fn=true\/D.sc.names.lookup y=some .local:=by first | exact .inl rfl | exact .inr rfl):pZ D (.Assign [.Name y py] (.ListComp elt [⟨tg,iter,ifs,0⟩] scope pos) spos) (aY (sO own k ix wi g tcs te) (hName i)):=by
 obtain ⟨_,p1,s1⟩:=hi;obtain ⟨_,p2,s2,gk,_⟩:=hg;obtain ⟨_,p3,s3⟩:=hif;obtain ⟨_,p4,s4⟩:=he
 have hN':∀ (j:Nat) x,N[k + j]?=some x->∃ i,ix[j]?=some i/\D.N[i]?=some x:=fun j x e=>by
  have e1:((N.drop k).map some)[j]?=some (some x):=by rw [List.getElem?_map,List.getElem?_drop,e];rfl
  rw [<- hN,List.getElem?_map] at e1
  cases q:ix[j]? with
  | none=>rw [q] at e1;cases e1
  | some i=>rw [q] at e1;exact ⟨i,rfl,Option.some.inj e1⟩
 have hcap':∀ (j:Nat) x,N[k + j]?=some x->scope.names.lookup x=some .free:=fun j x e=>hcap x (List.mem_of_getElem? (i:=j) (by rw [List.getElem?_drop];exact e))
 refine ⟨_,fun X h=>P9 (i:=i) (N:=N) (k:=k) (ix:=ix) h.calm (p1 X h) gk hk hcell hnames (fun y hy e=>by show X.env.scope.names.lookup y.1=_\/X.env.scope.names.lookup y.1=_;rw [h.sc];exact hfree y hy e) hone (fun j x e=>by rw [h.N];exact hN' j x e) hcap' hlen
  (fun cl C s H fp=>p2 _ (h.comp N scope cl C s H fp)) (fun cl C s H fp=>p3 _ (h.comp N scope cl C s H fp)) (fun cl C s H fp=>p4 _ (h.comp N scope cl C s H fp)) (hs _) (Mf (by rw [h.sc];exact hl1) (by rw [h.sc];exact hl2) hl3) (by rw [h.N];exact hNd) (by rw [h.N];exact hiy) (by rw [h.sc];exact hy) (by rcases hf with z | z;exact .inl (h.fn z y);exact .inr (by rw [h.sc];exact z)),GG (E1 s1 s2 s3 s4) (xJ i)⟩
end
section
variable {P:Program} {w:World} {K:PySem.W.Frag} {mg:Str->Option Value} {base:Heap}
variable {N:List Str}
theorem sA {H:Hp} {M:aG} {us:List U} {vs:List V} (r:aI K H M us vs):dU K H M (L2.start N vs) (dW N us):=by
 have hl:=r.length;refine ⟨by simp [L2.start,dW,hl],fun i u e=>?_⟩;unfold dW at e;unfold L2.start
 by_cases hi:i < us.length
 ·rw [List.getElem?_append_left (by simpa using hi),List.getElem?_map] at e
  cases q:us[i]? with
  | none=>rw [q] at e;cases e
  | some u' =>
   rw [q] at e;cases e;obtain ⟨v,h1,h2⟩:=r.get q;exact ⟨v,by rw [List.getElem?_append_left (by rw [List.length_map];omega),List.getElem?_map,h1];rfl,h2⟩
 ·rw [List.getElem?_append_right (by simpa using hi),List.getElem?_replicate] at e
  split at e <;> cases e
variable {x:Str} {st:Stmt} {f:Addr} {fd:FuncData} {ps:List Str} {sp:bE}
theorem Qb {k:Nat} {t:US} (F:cI K x x st f fd) (S:aV N ps (aL st))
  (len:∀ us M Q,sp us M Q->us.length=ps.length)
  (h:mI ⟨P,w,K,mg,base,N,aL st,k,true,.none,""⟩ (cA st) t)
  (q:∀ us M Q,sp us M Q->t { nx:=fun _ M'=>kF Q .non M',rt:=kF Q } (dW N us) M):fY P w K mg base mB (k + 1) f fd ps (cP K sp):=by
 obtain ⟨t0,h1,h2⟩:=h;refine F.ok S (fun vs H Q E ⟨us,M,Q',_,r,hs,_⟩=>by rw [<- r.length];exact len us M Q' hs) (fun cdv A outer s H vs Q E hr ⟨us,M,Q',rm,r,hs,c⟩=>?_);refine ⟨t0,h1 _ ⟨rfl,rfl,rfl,rfl,rfl,rfl,rfl,hr,rfl,rfl,fun _ _=>rfl,fun h=>absurd rfl h,fun _=>⟨rfl,rfl,rfl⟩⟩,?_⟩;refine h2 _ (dW N us) H M _ (sA r) rm (q us M Q' hs) _ ⟨fun σ τ H1 M1 s1 rm1 rs1 q1=>?_,fun u v H1 M1 s1 rm1 ru q1=>kF.ok c s1 rm1 ru q1,fun _ _ _ _ _ _ _ z=>z.elim,fun _ _ _ _ _ _ _ z=>z.elim⟩;exact kF.ok c s1 rm1 mL q1
theorem Ki {k:Nat} {t:US} (F:cI K x x st f fd) (hm:mg x=some (.ref f)) (S:aV N ps (aL st))
  (bind:∀ (kV doc pm:Value) (an:Option Addr) (cdv ct:Value) (us:List Value),us.length=ps.length->bindArgs (PySem.W.fnOf x x (dJ st) (cA st) (aL st) .none kV doc pm an cdv ct) ⟨us,[]⟩=pure (ps.zip us))
  (len:∀ us M Q,sp us M Q->us.length=ps.length)
  (h:mI ⟨P,w,K,mg,base,N,aL st,k,true,.none,""⟩ (cA st) t)
  (q:∀ us M Q,sp us M Q->t { nx:=fun _ M'=>kF Q .non M',rt:=kF Q } (dW N us) M):Callee P w K mg base (k + 1) x sp []:=by
 obtain ⟨t0,h1,h2⟩:=h;refine ⟨f,fd,ps,[],[],F.ok S (fun vs H Q E ⟨us,M,Q',_,r,hs,_⟩=>by rw [<- r.length];exact len us M Q' hs) (fun cdv A outer s H vs Q E hr ⟨us,M,Q',rm,r,hs,c⟩=>?_),hm,F.kp,F.binds bind,.nil,fun H M=>.nil⟩;refine ⟨t0,h1 _ ⟨rfl,rfl,rfl,rfl,rfl,rfl,rfl,hr,rfl,rfl,fun _ _=>rfl,fun h=>absurd rfl h,fun _=>⟨rfl,rfl,rfl⟩⟩,?_⟩;refine h2 _ (dW N us) H M _ (sA r) rm (q us M Q' hs) _ ⟨fun σ τ H1 M1 s1 rm1 rs1 q1=>?_,fun u v H1 M1 s1 rm1 ru q1=>kF.ok c s1 rm1 ru q1,fun _ _ _ _ _ _ _ z=>z.elim,fun _ _ _ _ _ _ _ z=>z.elim⟩;exact kF.ok c s1 rm1 mL q1
end
end U2
namespace U2
open PySem L2
theorem eX:bF "NoneType" "bool"=some false:=by decide +kernel
theorem fH:bF "NoneType" "int"=some false:=by decide +kernel
theorem fL:bF "NoneType" "str"=some false:=by decide +kernel
theorem eB:bF "NoneType" "tuple"=some false:=by decide +kernel
theorem eW:bF "NoneType" "list"=some false:=by decide +kernel
theorem eU:bF "NoneType" "dict"=some false:=by decide +kernel
theorem iF:bF "bool" "bool"=some true:=by decide +kernel
theorem jG:bF "bool" "int"=some true:=by decide +kernel
theorem jH:bF "bool" "str"=some false:=by decide +kernel
theorem gS:bF "bool" "tuple"=some false:=by decide +kernel
theorem iO:bF "bool" "list"=some false:=by decide +kernel
theorem iN:bF "bool" "dict"=some false:=by decide +kernel
theorem jN:bF "int" "bool"=some false:=by decide +kernel
theorem kK:bF "int" "int"=some true:=by decide +kernel
theorem kI:bF "int" "str"=some false:=by decide +kernel
theorem iK:bF "int" "tuple"=some false:=by decide +kernel
theorem jL:bF "int" "list"=some false:=by decide +kernel
theorem jC:bF "int" "dict"=some false:=by decide +kernel
theorem jS:bF "str" "bool"=some false:=by decide +kernel
theorem kL:bF "str" "int"=some false:=by decide +kernel
theorem kM:bF "str" "str"=some true:=by decide +kernel
theorem iC:bF "str" "tuple"=some false:=by decide +kernel
theorem jK:bF "str" "list"=some false:=by decide +kernel
theorem jP:bF "str" "dict"=some false:=by decide +kernel
theorem gP:bF "tuple" "bool"=some false:=by decide +kernel
theorem iB:bF "tuple" "int"=some false:=by decide +kernel
theorem iG:bF "tuple" "str"=some false:=by decide +kernel
theorem gG:bF "tuple" "tuple"=some true:=by decide +kernel
theorem gO:bF "tuple" "list"=some false:=by decide +kernel
theorem gT:bF "tuple" "dict"=some false:=by decide +kernel
theorem iD:bF "list" "bool"=some false:=by decide +kernel
theorem jI:bF "list" "int"=some false:=by decide +kernel
theorem jJ:bF "list" "str"=some false:=by decide +kernel
theorem gN:bF "list" "tuple"=some false:=by decide +kernel
theorem iL:bF "list" "list"=some true:=by decide +kernel
theorem iA:bF "list" "dict"=some false:=by decide +kernel
theorem iI:bF "dict" "bool"=some false:=by decide +kernel
theorem jO:bF "dict" "int"=some false:=by decide +kernel
theorem jQ:bF "dict" "str"=some false:=by decide +kernel
theorem gR:bF "dict" "tuple"=some false:=by decide +kernel
theorem iE:bF "dict" "list"=some false:=by decide +kernel
theorem iH:bF "dict" "dict"=some true:=by decide +kernel
variable {Q:UK} {M:aG}
theorem aU {u:U} (q:Q u M):kF Q u M:=⟨u,M,Sub.refl M,.inl rfl,q⟩
variable {wi:UI} {g:UG} {τ:SU} {M1:aG} {S:Src}
theorem Bl {o:Bool} {k:Nat} {ix:List Nat} {tc:UT} {te:UE} (f:U->Option U) (hw:∀ R:Src->aG->Prop,R S M1->wi τ M R) (hz:S.xs.length<=sizeLine) (hs:S.ok M1)
  (h:∀ x∈S.xs,∀ M,Sub M1 M->∀ R:Option U->aG->Prop,R (f x) M->g x (eQ k ix τ) M fun τ2 M2=>tc τ2 M2 fun ok M3=>if ok=true then te τ2 M3 fun y M4=>R (some y) M4 else R none M3)
  (q:i7 o (S.xs.filterMap f) M1 Q):sO o k ix wi g tc te τ M Q:=hw _ (Jz (wi:=wi) f hz hs h q)
variable {tb:US}
theorem eP {D:qE} (hw:∀ R:Src->aG->Prop,R S M1->wi τ M R) (P:Nat->SU->aG->Prop) (h0:P 0 τ M1) (hok:∀ i τ M,P i τ M->S.ok M)
  (turn:∀ i x τ M,S.xs[i]?=some x->P i τ M->g x τ M fun τ2 M2=>tb { D with nx:=P (i + 1),ct:=P (i + 1),bk:=D.nx } τ2 M2) (fin:∀ τ M,P S.xs.length τ M->D.nx τ M):LZ wi g tb D τ M:=hw _ ⟨P,h0,hok,turn,fin⟩
theorem Nz {c:UT} {D:qE} (P:SU->aG->Prop) (μ:SU->aG->Nat) (h0:P τ M)
  (turn:∀ τ M,P τ M->c τ M fun b M1=>if b=true then tb { D with nx:=fun τ' M'=>P τ' M'/\μ τ' M' < μ τ M,ct:=fun τ' M'=>P τ' M'/\μ τ' M' < μ τ M,bk:=D.nx } τ M1 else D.nx τ M1):Fg c tb D τ M:=⟨P,μ,h0,turn⟩
variable {n i:Nat} {x:U}
theorem m6 {lo:Int} (h:(dO lo n)[i]?=some x):x=.int (lo + i)/\i < n:=by
 have hi:i < n:=by
  have:=(List.getElem?_eq_some_iff.mp h).1
  simpa [dO] using this
 simp only [dO,List.getElem?_map,List.getElem?_range hi,Option.map_some] at h;exact ⟨(Option.some.inj h).symm,hi⟩
theorem lL (lo:Int) (n:Nat):(dO lo n).length=n:=by simp [dO]
open PySem.Spec PyProof.Rows
inductive Fl where
 | int (i:Int) | str (x:Str)
def Fl.d:Fl->PyData
 | .int i=>.int i
 | .str x=>.str x
def Fl.u:Fl->U
 | .int i=>.int i
 | .str x=>.str x
def Ie (T:List (Str × Fl)):List (PyData × PyData):=T.map fun p=>(PyData.str p.1,p.2.d)
def cJ:List (Str × Fl)->Str->Option Fl
 | [],_=>none
 | (a,b) :: r,z=>if a=z then some b else cJ r z
structure kR (P:Program) (w:World) (K:PySem.W.Frag) (d:Addr) (T:List (Str × Fl)):Prop where
 at_:∀ h:Heap,K.In h->StrTab P w h d (Ie T)
theorem Um (a b:Str):same (.str a) (.str b)=decide (a=b):=by
 by_cases h:a=b <;> simp [same,h]
theorem lookup_tab:∀ (T:List (Str × Fl)) (z:Str),PySem.Spec.lookup (.str z) (Ie T)=(cJ T z).map Fl.d
 | [],_=>rfl
 | (a,b) :: r,z=>by
  have ih:=lookup_tab r z;show (if same (.str a) (.str z)=true then some b.d else PySem.Spec.lookup (.str z) (Ie r))=((if a=z then some b else cJ r z).map Fl.d);rw [Um]
  by_cases e:a=z
  ·rw [if_pos (decide_eq_true e),if_pos e];rfl
  ·rw [if_neg (by simpa using e),if_neg e,ih]
def BI (T:List (Str × Fl)):List (Str × PyData):=T.map fun p=>(p.1,p.2.d)
variable {P:Program} {w:World} {K:PySem.W.Frag}
theorem tab_of {d:Addr} {T:List (Str × Fl)} (n:((BI T).map (·.1)).Nodup) (e:KTD.tabLook KTD.flatLooks (fun b=>K.lookup b) d (BI T)=true) (q:KTD.hashesOf (fun b=>K.lookup b) d=(BI T).map fun p=>(PySem.strKind P w).hash p.1):kR P w K d T:=⟨fun h hK=>by
 have:=PySem.W.kt_tab_in P w hK e n q
 unfold BI at this;rw [List.map_map] at this
 exact this⟩
section
variable {X:Cx} {d:Addr} {T:List (Str × Fl)}
theorem NK (t:kR X.prog X.w X.K d T):dI X (compareOp .In) (fun x y H Q=>∃ z,x=.str z/\y=.ref d/\Q (.bl (cJ T z).isSome) H):=by
 intro pins s σ H x y v u Q I rx ry h;obtain ⟨z,rfl,rfl,q⟩:=h;obtain ⟨tk,rfl⟩:=rx;cases ry;refine in_strTab (t.at_ _ I.kIn) ?_;rw [lookup_tab,Option.isSome_map];exact ⟨.bl _,H,I.tok _,rfl,q⟩
theorem FY (t:kR X.prog X.w X.K d T):dI X (compareOp .NotIn) (fun x y H Q=>∃ z,x=.str z/\y=.ref d/\Q (.bl (!(cJ T z).isSome)) H):=by
 intro pins s σ H x y v u Q I rx ry h;obtain ⟨z,rfl,rfl,q⟩:=h;obtain ⟨tk,rfl⟩:=rx;cases ry;refine notin_strTab (t.at_ _ I.kIn) ?_;rw [lookup_tab,Option.isSome_map];exact ⟨.bl _,H,I.tok _,rfl,q⟩
end
section
variable {D:Dat} {d:Addr} {T:List (Str × Fl)}
abbrev Tab (D:Dat):=kR D.prog D.w D.K
def dF (d:Addr) (T:List (Str × Fl)) (neg:Bool):dY:=fun x y M Q=>match x with
 | .str z=>y=.ref d/\Q (.bl (if neg then !(cJ T z).isSome else (cJ T z).isSome)) M
 | _=>False
theorem GD (t:Tab D d T):nS D .In (dF d T false):=⟨⟨_,fun X h=>NK (by rw [h.prog,h.w,h.K];exact t),fun x y u w H M Q' rm ru rw h Q c=>by
 cases u with
 | str z=>obtain ⟨rfl,h⟩:=h;exact ⟨z,ru.str,rw.ref,c.here rm fQ h⟩
 | _=>exact h.elim⟩⟩
theorem II (t:Tab D d T):nS D .NotIn (dF d T true):=⟨⟨_,fun X h=>FY (by rw [h.prog,h.w,h.K];exact t),fun x y u w H M Q' rm ru rw h Q c=>by
 cases u with
 | str z=>obtain ⟨rfl,h⟩:=h;exact ⟨z,ru.str,rw.ref,c.here rm fQ h⟩
 | _=>exact h.elim⟩⟩
def iQ (d:Addr) (T:List (Str × Fl)):dY:=fun x y M Q=>match y with
 | .str z=>x=.ref d/\match cJ T z with
  | some f=>Q f.u M
  | none=>False
 | _=>False
def Jk (i:Nat) (f:Addr) (sp:Sp) (t:TA):TE:=fun σ H Q=>Mw i σ H fun v H1=>v=.ref f/\t σ H1 fun vs H2=>sp vs H2 Q E0
def rD (i:Nat) (f:Addr) (sp:bE) (t:UA):UE:=fun τ M Q=>mW i τ M fun v M1=>v=.ref f/\t τ M1 fun us M2=>sp us M2 Q
end
def Mc (lo:Int) (n:Nat):It:=⟨fun i _=>i < n,fun i H x H'=>H'=H/\x=.int (lo + i * 2),fun i _=>n<=i⟩
variable {tg:Expr}
theorem Fu (it:Addr) (lo:Int) (n:Nat):Turn P w K tg (Mc lo n) [it] it (fun i h=>IsRangeIter h it (lo + (i:Nat) * 2) ((n:Int) - (i:Nat)) 2) where
 mem:=by simp
 obj:=fun i h st b hb=>by
  have e:b=it:=by simpa using hb
  subst e
  exact ⟨_,st,fun v z=>by
   have z':Data.fields _=Data.cell v:=z
   cases z'⟩
 keep:=fun i h h' st k=>k it (by simp) _ st
 item:=by
  intro X hP hw hK hc i pins s σ H E I hf st hg;subst hP hw hK;obtain ⟨f0,f1,f2,f3,f4,f5⟩:=hf it (by simp);have W:=Walks.range (prog:=X.prog) (w:=X.w) (I.ok.hd hc) it lo 2 n;refine W.item i s _ _ hg st fun v h' tk hv st' kk=>?_;obtain ⟨t,rfl⟩:=hv;have I1:L2.Inv X pins σ H { s with heap:=h',toks:=tk }:=I.turned (fun b o hb e=>kk b o (by simpa using hb) e) f0 f1 f3 f4 f5
  exact ⟨_,rfl,yW (s:={ s with heap:=h',toks:=tk }) (n:="range_iterator") st' rfl rfl (by decide) ⟨.int (lo + i * 2),H,I1,⟨t,rfl⟩,⟨rfl,rfl⟩,st',fun b hb=>(hf b hb).1⟩⟩
 done:=by
  intro X hP hw hK hc i pins s σ H E I hf st hg;subst hP hw hK;obtain ⟨f0,f1,f2,f3,f4,f5⟩:=hf it (by simp);exact wpAny_pyNext_range_end (I.ok.hd hc) st (by have:n<=i:=hg;omega) fun h' eb=>⟨rfl,I.turned (t':=s.toks) (fun b o hb e=>eb b o hb e) f0 f1 f3 f4 f5⟩
 self:=fun _ _ _ _ _ st h=>wpAny_pyIter_rangeiter st h
def half (j:Int):Nat:=((j + 1) / 2).toNat
def N9 (ta:TA):TI:=fun σ H R=>ta σ H fun vs H1=>∃ j:Int,vs=[.int 0,.int j,.int 2]/\0<=j/\j < 2 ^ 61/\R (Mc 0 (half j)) H1
variable {j:Int}
theorem DT (h:0<=j):Builtin.Range.rangeSize 0 j 2=(half j:Nat):=by
 unfold Builtin.Range.rangeSize half;simp only [show (2:Int) > 0 by decide,if_true];split <;> omega
theorem Jt (h:0<=j) (h2:j < 2 ^ 61):Builtin.Range.small 0 j 2=true:=by
 unfold Builtin.Range.small;rw [DT h];unfold half;simp only [Builtin.Range.rangeFitsLong,Bool.and_eq_true,Bool.or_eq_true,decide_eq_true_eq,beq_iff_eq,show (2:Int) > 0 by decide,if_true];omega
variable {c a b:Expr} {ta:TA} {p pos:Pos}
theorem Lj {X:Cx} (hg:Gl X "range") (hm:X.mg "range"=none) (ha:PA X [a,b,c] ta) (hs:starEach [a,b,c] X.env=(false,eval a X.env) :: starEach [b,c] X.env) (hs2:(backTo pos (starEach [b,c] X.env)).any (·.1)=false) :
  PI X tg (.Call (.Name "range" p) [a,b,c] [] pos) (N9 ta):=by
 intro pins s σ H R I h;refine Call_ (tH I hg hm boot_range (PyProof.Rows.callWith_type1 (bD (ha pos pins s σ H _ I h) fun us s1 ⟨vs,H1,I1,r1,q1⟩=>?_) hs hs2));obtain ⟨j,e,q1,q2,q⟩:=q1;subst e
 cases r1 with
 | cons r rr=>cases rr with
  | cons r' rr=>cases rr with
   | cons r'' rr =>
    cases rr;obtain ⟨t,rfl⟩:=r;obtain ⟨t',rfl⟩:=r';obtain ⟨t'',rfl⟩:=r'';refine call_range_3 (by decide) ?_;refine wpAny_pyIter_range (IsRange.new ..) (Jt q1 q2) ?_
    have I2:L2.Inv X pins σ H1 { s1 with heap:=s1.heap.push { cls:=.type "range",data:=.fields #[.int 0 t,.int j t',.int 2 t''] },toks:=s1.toks }:=I1.kept fun b o e=>Heap.get?_push_of_some _ e
    refine ⟨(s1.heap.push { cls:=.type "range",data:=.fields #[.int 0 t,.int j t',.int 2 t''] }).objs.size,[(s1.heap.push { cls:=.type "range",data:=.fields #[.int 0 t,.int j t',.int 2 t''] }).objs.size],_,_,H1,rfl,
     I2.kept (t':=s1.toks) fun b o e=>Heap.get?_push_of_some _ e,Fu _ 0 (half j),?_,fun b hb=>?_,q⟩
    ·have e1:(0:Int) + ((0:Nat):Int) * 2=0:=by simp
     have e2:((half j:Nat):Int) - ((0:Nat):Int)=Builtin.Range.rangeSize 0 j 2:=by rw [DT q1];simp
     show IsRangeIter _ _ ((0:Int) + ((0:Nat):Int) * 2) (((half j:Nat):Int) - ((0:Nat):Int)) 2;rw [e1,e2];exact Heap.get?_push_size _ rfl
    ·have e:b=(s1.heap.push { cls:=.type "range",data:=.fields #[.int 0 t,.int j t',.int 2 t''] }).objs.size:=by simpa using hb
     subst e;exact I2.fpOk (Nat.le_refl _) (I2.hok.fresh (Nat.le_refl _))
def lN (n:Nat):List U:=(List.range n).map fun (k:Nat)=>U.int ((k:Int) * 2)
theorem zN (h:(lN n)[i]?=some x):x=.int ((i:Int) * 2)/\i < n:=by
 have hi:i < n:=by
  have:=(List.getElem?_eq_some_iff.mp h).1
  simpa [lN] using this
 simp only [lN,List.getElem?_map,List.getElem?_range hi,Option.map_some] at h;exact ⟨(Option.some.inj h).symm,hi⟩
theorem Fs (n:Nat):(lN n).length=n:=by simp [lN]
theorem FH {H:Hp}:Walk K (Mc 0 n) ⟨none,lN n⟩ H M:=by
 refine ⟨fun H1 M1 s rm _ i u e=>?_,fun H1 M1 s rm _=>?_⟩
 ·obtain ⟨rfl,hi⟩:=zN e
  refine ⟨hi,fun x H2 y=>?_⟩;obtain ⟨rfl,rfl⟩:=y;exact ⟨aQ.refl _ _,rm,by rw [Int.zero_add];exact c8⟩
 ·show n<=(lN n).length
  rw [Fs];exact Nat.le_refl _
def HY (ta:UA):UI:=fun τ M R=>ta τ M fun us M1=>match us with
 | [.int i,.int j,.int k]=>i=0/\k=2/\0<=j/\j < 2 ^ 61/\R ⟨none,lN (half j)⟩ M1
 | _=>False
theorem NM {ta':UA} (h:lA K ta ta'):sV K (N9 ta) (HY ta'):=fun σ τ H M R' rs rm q R c=>h σ τ H M _ rs rm q _ fun us vs M1 H1 s1 rm1 ru h1=>by
 split at h1
 ·rename_i i j k
  obtain ⟨rfl,rfl,h2,h3,h4⟩:=h1;obtain ⟨v,vs',rfl,a,b⟩:=ru.inv_cons;obtain ⟨v2,vs2,rfl,a2,b2⟩:=b.inv_cons;obtain ⟨v3,rfl,a3⟩:=b2.one;cases a.int;cases a2.int;cases a3.int;exact ⟨j,rfl,h2,h3,c _ _ M1 H1 s1 rm1 FH h4⟩
 ·exact h1.elim
theorem Qr {D:Dat} {ta:UA} (hm:D.mg "range"=none) (ha:mP D [a,b,c] ta) (hg:D.sc.names.lookup ("range":Str)=some .globalImplicit:=by rfl) (hs:∀ env,starEach [a,b,c] env=(false,eval a env) :: starEach [b,c] env:=by intro _;rfl) (hs2:∀ env,(backTo pos (starEach [b,c] env)).any (·.1)=false:=by intro _;rfl):zO D tg (.Call (.Name "range" p) [a,b,c] [] pos) (HY ta):=by
 obtain ⟨_,q,s⟩:=ha;exact ⟨_,fun X h=>Lj (by show X.env.scope.names.lookup _=_;rw [h.sc];exact hg) (by rw [h.mg];exact hm) (q X h) (hs _) (hs2 _),NM s⟩
def vB:List U->Option (List Str)
 | []=>some []
 | .str b :: r=>(vB r).map (b :: ·)
 | _=>none
theorem Ct {K:PySem.W.Frag} {H:Hp} {M:aG}:∀ {us:List U} {vs:List V} {bs:List Str},aI K H M us vs->vB us=some bs->vs=bs.map V.str
 | [],_,_,r,h=>by cases h;exact r.inv_nil
 | u :: us,_,bs,r,h=>by
  obtain ⟨v,vs',rfl,a,b⟩:=r.inv_cons
  cases u with
  | str y =>
   simp only [vB] at h
   cases e:vB us with
   | none=>rw [e] at h;cases h
   | some cs =>
    rw [e] at h;cases h;rw [Ct b e,a.str];rfl
  | _=>cases h
end U2
namespace U2
open PySem L2
variable {α:Type}
theorem G3 {a:α} {r:List α}:dH (a :: r) 0=some a:=fK (j:=0) rfl
theorem GS {a b:α} {r:List α}:dH (a :: b :: r) 1=some b:=fK (j:=1) rfl
theorem at2 {a b c:α} {r:List α}:dH (a :: b :: c :: r) 2=some c:=fK (j:=2) rfl
theorem F8 {a b c d:α} {r:List α}:dH (a :: b :: c :: d :: r) 3=some d:=fK (j:=3) rfl
theorem Q3 (a:α) (r:List α):jT (a :: r) (some 1) none=r:=by
 unfold jT
 simp [HT.bM]
 try omega
variable {M:aG}
theorem tP:view M .non=.non:=rfl
theorem yG {x:Bool}:view M (.bl x)=.bl x:=rfl
theorem uF {x:Int}:view M (.int x)=.int x:=rfl
theorem tQ {x:Str}:view M (.str x)=.str x:=rfl
variable {x:List U}
theorem tS:view M (.tup x)=.tup x:=rfl
theorem tW:view M (.lst x)=.lst x:=rfl
variable {p:Addr} {us:List U}
theorem qZ:view (mup M p (.lst us)) (.ref p)=.lst us:=bJ aD
theorem FZ:KS (mup M p (.lst us)) (.ref p):=⟨us,qZ⟩
theorem Sub.none {M M':aG} {p:Addr} (h:Sub M M') (hp:M' p=none):M p=none:=by
 cases e:M p with
 | none=>rfl
 | some o=>rw [h p o e] at hp;cases hp
theorem jY {o:Bool} {k:Nat} {ix:List Nat} {wi:UI} {g:UG} {te:UE} {τ:SU} {M1:aG} {Q:UK} {S:Src} (zs:List U) (hw:∀ R:Src->aG->Prop,R S M1->wi τ M R) (hl:zs.length=S.xs.length) (hz:S.xs.length<=sizeLine) (hs:S.ok M1)
  (h:∀ (i:Nat) x y,S.xs[i]?=some x->zs[i]?=some y->∀ M,Sub M1 M->∀ R:UK,R y M->g x (eQ k ix τ) M fun τ2 M2=>te τ2 M2 R)
  (q:i7 o zs M1 Q):sO o k ix wi g (fun _ M Q=>Q true M) te τ M Q:=by
 refine hw _ ⟨hz,fun D hD=>⟨fun i ys M=>ys=zs.take i/\M=mup M1 D (.lst ys)/\i<=S.xs.length,⟨by simp,rfl,Nat.zero_le _⟩,?_,?_,?_⟩⟩
 ·rintro i ys M ⟨rfl,rfl,hi⟩
  refine ⟨fun a e=>?_,aD,?_⟩
  ·have:=hs a e
   rw [aF (fun z=>by subst z;rw [hD] at this;cases this)];exact this
  ·rw [List.length_take];omega
 ·rintro i x ys M e ⟨rfl,rfl,hi⟩
  have hlt:i < S.xs.length:=(List.getElem?_eq_some_iff.mp e).1;have hy:zs[i]?=some zs[i]:=by simp [show i < zs.length by omega]
  have tk:zs.take (i + 1)=zs.take i++[zs[i]]:=by rw [List.take_add_one,hy];rfl
  refine h i x zs[i] e hy (mup M1 D (.lst (zs.take i))) ((Sub.refl M1).mup hD) (fun y M4=>M4 D=some (.lst (zs.take i))/\(zs.take i++[y]=zs.take (i + 1)/\mup M4 D (.lst (zs.take i++[y]))=mup M1 D (.lst (zs.take i++[y]))/\i + 1<=S.xs.length)) ?_;exact ⟨aD,tk.symm,aZ,hlt⟩
 ·rintro ys M ⟨rfl,rfl,hi⟩
  rw [show zs.take S.xs.length=zs by rw [<- hl];exact List.take_length]
  cases o with
  | true=>exact q D hD
  | false=>exact ⟨M1,(Sub.refl M1).mup hD,hD,q⟩
open PySem.Spec PyProof.Rows
section
variable {prog:Program} {w:World} {A:Around} {E:Value->Shared->Prop} {s:Shared}
variable {it:Addr} {i:Nat} {Q:Value->Shared->Prop}
theorem zH {t:Addr} {items} {x:Value} (hit:s.heap.IsTupleIter it t i)
  (ht:s.heap.IsTuple t items) (hx:items[i]?=some x)
  (hQ:∀ h',h'.IsTupleIter it t (i + 1)->Heap.SameBut it s.heap h'->Q x { s with heap:=h' }) :
  wpAny (model prog w) A (Builtin.SmallTypes.nextOf (.ref it)) Q E s:=by
 obtain ⟨o,ho,hc,hd⟩:=id hit;obtain ⟨ol,hol,_,nl,hdl⟩:=ht;unfold Builtin.SmallTypes.nextOf
 refine wpAny_bind (wpAny_callSpecial?_slot (name:=Str.ofString "__next__") hit.typeIs PySem.F.slot_tuple_iterator_next
  (wpAny_call_entry PySem.F.slot_tuple_iterator_next hit.typeIs PySem.F.entry_tuple_iterator_next ?_ (PySem.F.args_tuple_iterator_next_1 _)))
 show wpAny _ _ (field (.ref it) 0 >>= _) _ _ s;refine wpAny_bind (wpAny_field ho hd (x:=.ref t) rfl ?_);show wpAny _ _ (if (Value.ref t == Value.none)=true then _ else _) _ _ s;rw [if_neg (show ¬ ((Value.ref t == Value.none)=true) from Bool.false_ne_true)];show wpAny _ _ (field (.ref it) 1 >>= _) _ _ s;refine wpAny_bind (wpAny_field ho hd (x:=.int i 0) rfl ?_);show wpAny _ _ (seqItems? (.ref t) >>= _) _ _ s;refine wpAny_bind (wpAny_seqItems hol hdl ?_);simp only [Int.toNat_natCast,hx];refine wpAny_bind (wpAny_setField ho hd (by simp) (wpAny_pure ⟨x,rfl,wpAny_pure (hQ _ ?_ (Heap.SameBut.update ..))⟩))
 exact ⟨_,Heap.get?_update_self _ ho (Obj.isFreed_of_fields (Obj.data_mapFields hd _)),(Obj.cls_mapFields ..).trans hc,by
  rw [Obj.data_mapFields hd];simp [rawInt]⟩
theorem zZ {t:Addr} {items} (hh:A.handled=none)
  (hit:s.heap.IsTupleIter it t i) (ht:s.heap.IsTuple t items) (hx:items[i]?=none)
  (hE:∀ h' e,Heap.ExtBut it s.heap h'->(∃ o,h'.get? e=some o/\o.cls=.type "StopIteration")->E (.ref e) { s with heap:=h' }) :
  wpAny (model prog w) A (Builtin.SmallTypes.nextOf (.ref it)) Q E s:=by
 obtain ⟨o,ho,hc,hd⟩:=id hit;obtain ⟨ol,hol,_,nl,hdl⟩:=ht;unfold Builtin.SmallTypes.nextOf
 refine wpAny_bind (wpAny_callSpecial?_slot (name:=Str.ofString "__next__") hit.typeIs PySem.F.slot_tuple_iterator_next
  (wpAny_call_entry PySem.F.slot_tuple_iterator_next hit.typeIs PySem.F.entry_tuple_iterator_next ?_ (PySem.F.args_tuple_iterator_next_1 _)))
 show wpAny _ _ (field (.ref it) 0 >>= _) _ _ s;refine wpAny_bind (wpAny_field ho hd (x:=.ref t) rfl ?_);show wpAny _ _ (if (Value.ref t == Value.none)=true then _ else _) _ _ s;rw [if_neg (show ¬ ((Value.ref t == Value.none)=true) from Bool.false_ne_true)];show wpAny _ _ (field (.ref it) 1 >>= _) _ _ s;refine wpAny_bind (wpAny_field ho hd (x:=.int i 0) rfl ?_);show wpAny _ _ (seqItems? (.ref t) >>= _) _ _ s;refine wpAny_bind (wpAny_seqItems hol hdl ?_);simp only [Int.toNat_natCast,hx];refine wpAny_bind (wpAny_rule (wpAny_bind (wpAny_setField ho hd (by simp) ?_)))
 show wpAny _ _ (newExc (.type "StopIteration") [] >>= _) _ _ _
 refine wpAny_bind ?_;simp only [newExc,newTuple];refine wpAny_bind (wpAny_newObj_type ?_ (by size_fits));refine wpAny_bind (m:=firstArgMember _ _) (wpAny_of_eq (a:=Value.none) (by first | rfl | (simp only [firstArgMember];rfl)) ?_);refine wpAny_newObj_type ?_ (by size_fits);simp only [raiseNew];refine wpAny_bind (wpAny_handled ?_)
 first | rw [show A.in1.handled=none from hh] | rw [hh]
 refine wpAny_bind (wpAny_pure (wpAny_throw ?_));exact hE _ _ (((Heap.SameBut.update ..).extBut.push _).push _) ⟨_,Heap.get?_push_size _ rfl,rfl⟩
theorem FL {prog:Program} {w:World} {A:Around} (hh:A.handled=none) (it l:Addr) (hne:l≠it) (items:Array Value) :
  Draws prog w A it [it,l] items.size (fun i v=>items[i]?=some v) (fun i h=>h.IsTupleIter it l i/\h.IsTuple l items) where
 live:=fun _ _ st=>let ⟨o,ho,_⟩:=st.1;⟨o,ho⟩
 frame:=fun _ _ _ st hk=>⟨st.1.at fun o e=>hk it (by simp) o e,let ⟨o,ho,r⟩:=st.2;⟨o,hk l (by simp) o ho,r⟩⟩
 item:=fun i s Q E hi st hQ=>by
  refine zH st.1 st.2 (x:=items[i]) (by simp [hi]) fun h' hit' hs'=>?_;exact hQ _ h' s.toks (by simp [hi]) ⟨hit',let ⟨o,ho,r⟩:=st.2;⟨o,hs'.extBut l o hne ho,r⟩⟩ hs'
 done:=fun s Q E st hE=>zZ hh st.1 st.2 (by simp) hE
end
def pX (b:Bool) (K:PySem.W.Frag) (H:Hp) (a:Addr) (xs:List V):Prop:=match b with
 | true=>eR K H a xs
 | false=>fR K H a xs
def lQ (b:Bool) (h:Heap) (a:Addr) (xs:Array Value):Prop:=match b with
 | true=>h.IsList a xs
 | false=>h.IsTuple a xs
def m8 (b:Bool) (h:Heap) (it a:Addr) (i:Nat):Prop:=match b with
 | true=>h.IsListIter it a i
 | false=>h.IsTupleIter it a i
def UR:Bool->String
 | true=>"list"
 | false=>"tuple"
def vZ:Bool->String
 | true=>"list_iterator"
 | false=>"tuple_iterator"
variable {h:Heap}
theorem mD {b b':Addr} {o o':Obj} {n n':String} (x:h.get? b=some o) (y:h.get? b'=some o') (p:o.cls=.type n) (q:o'.cls=.type n') (ne:n≠n'):b≠b':=fun z=>by
 subst z;rw [x] at y;cases y;rw [p] at q;exact ne (Value.type.inj q)
variable {b:Bool} {a:Addr} {xs:Array Value}
theorem lQ.obj (p:lQ b h a xs):∃ o n,h.get? a=some o/\o.cls=.type (UR b)/\o.data=.seq xs n:=by
 cases b <;> (obtain ⟨o,e,c,n,d⟩:=p;exact ⟨o,n,e,c,d⟩)
variable {it:Addr} {i:Nat}
theorem m8.obj (p:m8 b h it a i):∃ o,h.get? it=some o/\o.cls=.type (vZ b)/\o.data=.fields #[.ref a,.int i 0]:=by
 cases b <;> exact p
theorem m8.of {o:Obj} (e:h.get? it=some o) (c:o.cls=.type (vZ b)) (d:o.data=.fields #[.ref a,.int i 0]):m8 b h it a i:=by
 cases b <;> exact ⟨o,e,c,d⟩
variable {h':Heap}
theorem m8.at (p:m8 b h it a i) (k:∀ o,h.get? it=some o->h'.get? it=some o):m8 b h' it a i :=
 let ⟨o,e,c,d⟩:=p.obj;.of (k o e) c d
variable {c:Addr}
theorem lQ.ne {b':Bool} (p:lQ b h a xs) (q:m8 b' h it c i):a≠it :=
 let ⟨_,_,e,c,_⟩:=p.obj;let ⟨_,e',c',_⟩:=q.obj;mD e e' c c' (by cases b <;> cases b' <;> decide)
variable {X:Cx} {pins:List (Addr × Obj)} {σ:L2.St} {H:Hp} {s:Shared}
theorem AM {xs:List V} (I:L2.Inv X pins σ H s) (h:pX b X.K H a xs):∃ its:List Value,Vals xs its/\lQ b s.heap a its.toArray/\xs.length<=sizeLine:=by
 cases b
 ·exact I.tuple h
 ·obtain ⟨its,r,p,z⟩:=I.list h;exact ⟨its,r,p.isList,z⟩
theorem Tv {xs ys:List V} (I:L2.Inv X pins σ H s) (h:pX b X.K H a xs) (h':pX b X.K H a ys):xs=ys:=by
 cases b
 ·exact I.tuple_inj h h'
 ·exact I.list_inj h h'
variable {prog:Program} {w:World} {A:Around}
theorem oE (b:Bool) (hh:A.handled=none) (it l:Addr) (hne:l≠it) (items:Array Value) :
  Draws prog w A it [it,l] items.size (fun i v=>items[i]?=some v) (fun i h=>m8 b h it l i/\lQ b h l items):=by
 cases b
 ·exact FL hh it l hne items
 ·exact Draws.list hh it l hne items
def Lq (b:Bool) (K:PySem.W.Frag) (H:Hp) (M:aG) (a:Addr) (vs:List V):Prop:=∀ H1 M1,aQ H M H1 M1->pX b K H1 a vs
variable {K:PySem.W.Frag} {vs:List V}
theorem Vw (m:M a=none/\H a=some (.tup vs)):Lq false K H M a vs:=fun _ _ s=>.inl (.inl (s.to m.2 m.1).1)
theorem J5 (m:(M a=none/\Rd H a (.lst vs))\/KL K a vs):Lq true K H M a vs:=fun _ _ s=>by
 rcases m with ⟨m,h⟩ | k
 ·exact .inl (Rd.stp s m h).2
 ·exact .inr k
section
variable {prog:Program} {w:World} {A:Around} {E:Value->Shared->Prop} {s:Shared}
theorem Ad (l:Addr) (items:Array Value) (n:Nat) (dd:Option Addr) (sl:Array (Option Value)) :
  Meets (Builtin.«enumerate.__new__» ⟨[.type "enumerate",.ref l],[]⟩) (fun _ R s=>s.heap.get? l=some { cls:=.type "tuple",dict:=dd,data:=.seq items n,slots:=sl } /\
   R (.ok (.ret (.ref (s.heap.push { cls:=.type "tuple_iterator",data:=.fields #[.ref l,.int 0 0] }).objs.size)))
    { s with heap:=(s.heap.push { cls:=.type "tuple_iterator",data:=.fields #[.ref l,.int 0 0] }).push { cls:=.type "enumerate",data:=.fields #[.none,.bool false,.ref s.heap.objs.size,rawInt 0,.none,.none] } }) :=
 .of_wp fun prog w A R s h=>by
  obtain ⟨hp,g,d,tk,os⟩:=s;obtain ⟨hl,h⟩:=h;have hsub:=PySem.sub_enumerate;have hL:Heap.IsTuple (Shared.heap ⟨hp,g,d,tk,os⟩) l items:=⟨_,hl,rfl,n,rfl⟩
  wp_walk using wpAny_loadPart' hl
  refine wpAny_stack_any fun st=>wpAny_pure ?_;split
  ·rename_i c _ _ _ _ _
   cases (c == Value.type "enumerate")
   ·wp_walk using wpAny_loadPart' hl,wpAny_pyIter_tuple hL
    exact ⟨_,rfl,h⟩
   ·wp_walk using wpAny_loadPart' hl,wpAny_pyIter_tuple hL
    exact ⟨_,rfl,h⟩
  ·wp_walk using wpAny_loadPart' hl,wpAny_pyIter_tuple hL
   exact ⟨_,rfl,h⟩
theorem Al (l:Addr) (items:Array Value) (n:Nat) (dd:Option Addr) (sl:Array (Option Value)) :
  Meets (Builtin.«enumerate.__new__» ⟨[.type "enumerate",.ref l],[]⟩) (fun _ R s=>s.heap.get? l=some { cls:=.type "list",dict:=dd,data:=.seq items n,slots:=sl } /\
   R (.ok (.ret (.ref (s.heap.push { cls:=.type "list_iterator",data:=.fields #[.ref l,.int 0 0] }).objs.size)))
    { s with heap:=(s.heap.push { cls:=.type "list_iterator",data:=.fields #[.ref l,.int 0 0] }).push { cls:=.type "enumerate",data:=.fields #[.none,.bool false,.ref s.heap.objs.size,rawInt 0,.none,.none] } }) :=
 .of_wp fun prog w A R s h=>by
  obtain ⟨hp,g,d,tk,os⟩:=s;obtain ⟨hl,h⟩:=h;have hsub:=PySem.sub_enumerate;have hL:Heap.IsList (Shared.heap ⟨hp,g,d,tk,os⟩) l items:=⟨_,hl,rfl,n,rfl⟩
  wp_walk using wpAny_loadPart' hl
  refine wpAny_stack_any fun st=>wpAny_pure ?_;split
  ·rename_i c _ _ _ _ _
   cases (c == Value.type "enumerate")
   ·wp_walk using wpAny_loadPart' hl,wpAny_pyIter_list hL
    exact ⟨_,rfl,h⟩
   ·wp_walk using wpAny_loadPart' hl,wpAny_pyIter_list hL
    exact ⟨_,rfl,h⟩
  ·wp_walk using wpAny_loadPart' hl,wpAny_pyIter_list hL
   exact ⟨_,rfl,h⟩
end
theorem tZ {ch:List Addr} {T:Addr} {o:HO} {tk:Nat} (I:L2.Inv X pins σ H s) (hf:∀ b∈ch,vV X pins H b)
  (k:∀ b o,b ∉ ch->s.heap.get? b=some o->h'.get? b=some o) (hT:s.heap.objs.size<=T) (new:cZ X.prog X.w (upd H T o) h' T o):L2.Inv X pins σ (upd H T o) { s with heap:=h',toks:=tk }:=by
 have hn:H T=none:=I.hok.fresh hT
 refine I.call' (ch:=ch) (H':=upd H T o) rfl ⟨fun b u q n hb hx=>k b u hx q,fun b u q n hb hx=>⟨u.slots,k b u hx q⟩,fun b u q n hx=>?_,fun b u q hx=>⟨u,k b u hx q⟩,fun b xs q=>by rw [bK (cM q hn)];exact q,fun b u xs q=>by rw [bK (cM q hn)];exact q,
  fun b ps q=>⟨#[],by rw [bK (cM q hn),q];simp⟩⟩ (fun a u e=>?_) I.bare fun b hb=>⟨(hf b hb).2.2.2.1,(hf b hb).2.1,(hf b hb).2.2.2.2.1,(hf b hb).2.2.2.2.2⟩
 ·rw [bK (Nat.ne_of_lt (Nat.lt_of_lt_of_le (Heap.lt_size q) hT))];exact n
 ·by_cases ha:a=T
  ·subst ha;rw [bY] at e;cases e;exact new
  ·rw [bK ha] at e
   refine (I.hok a u e).stay (fun b z hb q=>k b z (fun hc=>?_) q) (fun c q=>by rw [bK (cM q hn)];exact q) fun c xs q=>by rw [bK (cM q hn)];exact q
   have hnone:=(hf b hc).1
   rcases hb with rfl | hb
   ·rw [hnone] at e;cases e
   ·rw [hnone] at hb;cases hb
def Rv (f:Bool) (K:PySem.W.Frag) (a:Addr):It :=
 ⟨fun i H=>∃ xs x,pX f K H a xs/\xs[i]?=some x,fun i H x H'=>∃ p v,(∀ xs,pX f K H a xs->xs[i]?=some v)/\H p=none/\x=.ref p/\H'=upd H p (.tup [.int i,v]),fun i H=>∃ xs,pX f K H a xs/\xs.length=i⟩
variable {P:Program} {elts:List Expr} {kk:Nat}
theorem Lf {pos:Pos} (f:Bool) (a it e:Addr):Turn P w K (.Tuple elts kk pos) (Rv f K a) [e,it] e (fun i h=>(∃ old,IsEnum h e it i old)/\m8 f h it a i) where
 mem:=by simp
 obj:=fun i h st b hb=>by
  obtain ⟨⟨old,he⟩,hi⟩:=st;obtain ⟨o,ho,hc,hd⟩:=hi.obj
  have:b=e\/b=it:=by simpa using hb
  rcases this with rfl | rfl
  ·exact ⟨_,he,fun v z=>by
    have z':Data.fields _=Data.cell v:=z
    cases z'⟩
  ·exact ⟨o,ho,fun v z=>by rw [hd] at z;cases z⟩
 keep:=fun i h h' st k=>let ⟨⟨old,he⟩,hi⟩:=st;⟨⟨old,k e (by simp) _ he⟩,hi.at fun o q=>k it (by simp) o q⟩
 item:=by
  intro X hP hw hK hc i pins s σ H E I hf st hg;subst hP hw hK;obtain ⟨⟨old,he⟩,hit⟩:=st;obtain ⟨xs,x,hq,hx⟩:=hg;obtain ⟨its,rv,p,hz⟩:=AM I hq;obtain ⟨u,hu,ru⟩:=rv.get hx;have p':lQ f s.heap a its.toArray:=p;obtain ⟨oi,hoi,hci,hdi⟩:=hit.obj;obtain ⟨oa,na,hoa,hca,hda⟩:=p'.obj;have n1:a≠it:=p'.ne hit;have n2:e≠it:=mD he hoi rfl hci (by cases f <;> decide);have n3:e≠a:=mD he hoa rfl hca (by cases f <;> decide);have W:=WalksT.enumerateD (prog:=X.prog) (w:=X.w) (A:=X.A) (oE f (A:=X.A.in1) (show X.A.in1.handled=none from I.ok.hd hc) it a n1 its.toArray) e n2 (by simp [n2,n3]) (by simp)
  have hlt:i < its.toArray.size:=by
   have:=(List.getElem?_eq_some_iff.mp hu).1
   simpa using this
  have hD:=oE f (prog:=X.prog) (w:=X.w) (A:=X.A.in1) (show X.A.in1.handled=none from I.ok.hd hc) it a n1 its.toArray;refine wpAny_pyNext_enum_itemD hD he ⟨hit,p'⟩ hlt n2 (by simp [n2,n3]) fun y h' tk hy ho0 hs0 hT0 hsz0 hk0=>?_;have helt:e < s.heap.objs.size:=Heap.lt_size he;have hilt:it < s.heap.objs.size:=Heap.lt_size hoi;have kO:jM h' s.heap.objs.size #[Value.int i tk,y]:=⟨_,hT0,rfl,rfl,_,rfl⟩;have hk:∀ b o,b ∉ [e,it]->s.heap.get? b=some o->h'.get? b=some o:=fun b o hb z=>hk0 b o (fun e'=>hb (by simp [e'])) (fun e'=>hb (by simp [e'])) z;have hMid:=(⟨⟨_,ho0⟩,hs0,Nat.ne_of_gt helt,Nat.ne_of_gt hilt⟩:(∃ x,IsEnumOut h' e it ((i:Int) + 1) x s.heap.objs.size)/\_/\s.heap.objs.size≠e/\s.heap.objs.size≠it);obtain ⟨T,hTe⟩:∃ T,T=s.heap.objs.size:=⟨_,rfl⟩;rw [<- hTe] at kO hMid ⊢;have hT:s.heap.objs.size<=T:=Nat.le_of_eq hTe.symm;refine ⟨.ref T,rfl,W.go elts kk pos i T _ _ E hMid fun h'' hSt hk2=>?_⟩
  have hy':y=u:=by
   have h3:its[i]?=some y:=by simpa using hy
   rw [hu] at h3;exact (Option.some.inj h3).symm
  subst hy'
  have hTT:jM h'' T #[.int i tk,y]:=let ⟨o,ho,r⟩:=kO;⟨o,hk2 T o (W.apart i T _ hMid) ho,r⟩
  refine ⟨.ref T,upd H T (.tup [.int i,x]),tZ (s:=s) (h':=h'') (tk:=tk + 1) (ch:=[e,it]) I hf (fun b o hb q=>hk2 b o (by simpa using hb) (hk b o (by simpa using hb) q)) hT ⟨by show 2<=sizeLine;decide,[.int i tk,y],.cons ⟨tk,rfl⟩ (.cons ru .nil),hTT⟩,rfl,⟨T,x,fun ys hy=>by rw [<- Tv I hq hy];exact hx,I.hok.fresh hT,rfl,rfl⟩,⟨by simpa using hSt.1,hSt.2.1⟩,fun b hb=>?_⟩;have hn:=(hf b hb).1;rw [bK (Nat.ne_of_lt (Nat.lt_of_lt_of_le ?_ hT))]
  ·exact hn
  ·have:b=e\/b=it:=by simpa using hb
   rcases this with rfl | rfl
   ·exact Heap.lt_size he
   ·exact Heap.lt_size hoi
 done:=by
  intro X hP hw hK hc i pins s σ H E I hf st hg;subst hP hw hK;obtain ⟨⟨old,he⟩,hit⟩:=st;obtain ⟨xs,hq,hx⟩:=hg;obtain ⟨its,rv,p,hz⟩:=AM I hq;have p':lQ f s.heap a its.toArray:=p;obtain ⟨oi,hoi,hci,hdi⟩:=hit.obj;obtain ⟨oa,na,hoa,hca,hda⟩:=p'.obj;have n1:a≠it:=p'.ne hit;have n2:e≠it:=mD he hoi rfl hci (by cases f <;> decide);have n3:e≠a:=mD he hoa rfl hca (by cases f <;> decide);have W:=WalksT.enumerateD (prog:=X.prog) (w:=X.w) (A:=X.A) (oE f (A:=X.A.in1) (show X.A.in1.handled=none from I.ok.hd hc) it a n1 its.toArray) e n2 (by simp [n2,n3]) (by simp);have hi:i=its.toArray.size:=by rw [List.size_toArray,<- rv.length];exact hx.symm
  subst hi;refine W.done s _ E ⟨⟨old,he⟩,hit,p'⟩ fun h' tk hk=>⟨rfl,?_⟩
  have:=I.call' (ch:=[e,it]) (H':=H) (s':={ s with heap:=h',toks:=tk }) rfl ⟨fun b u q n hb hx=>hk b u (by simpa using hx) q,fun b u q n hb hx=>⟨u.slots,hk b u (by simpa using hx) q⟩,fun b u q n hx=>n,fun b u q hx=>⟨u,hk b u (by simpa using hx) q⟩,fun b xs q=>q,fun b u xs q=>q,fun b ps q=>⟨#[],by rw [q];simp⟩⟩
   (fun a u e'=>?_) I.bare fun b hb=>⟨(hf b hb).2.2.2.1,(hf b hb).2.1,(hf b hb).2.2.2.2.1,(hf b hb).2.2.2.2.2⟩
  ·exact this
  ·refine (I.hok a u e').stay (fun b z hb q=>hk b z (fun hc=>?_) q) (fun _ q=>q) fun _ _ q=>q
   have hnone:=(hf b (by simpa using hc)).1
   rcases hb with rfl | hb
   ·rw [hnone] at e';cases e'
   ·rw [hnone] at hb;cases hb
 self:=fun _ _ _ _ _ st h=>let ⟨⟨old,he⟩,_⟩:=st;wpAny_pyIter_enum he h
variable {Q E:Value->Shared->Prop} {f:Bool} {l:Addr}
theorem Hi {items:Array Value}
  (hl:lQ f s.heap l items)
  (h:∀ h',IsEnum h' (s.heap.objs.size + 1) s.heap.objs.size 0 .none->m8 f h' s.heap.objs.size l 0->h'.objs.size=s.heap.objs.size + 2 ->
   (∀ b o,s.heap.get? b=some o->h'.get? b=some o)->Q (.ref (s.heap.objs.size + 1)) { s with heap:=h' }) :
  wpAny (model prog w) A (call (.type "enumerate") [.ref l]) Q E s:=by
 have fin:Q (.ref (s.heap.push { cls:=.type (vZ f),data:=.fields #[.ref l,.int 0 0] }).objs.size)
   { s with heap:=(s.heap.push { cls:=.type (vZ f),data:=.fields #[.ref l,.int 0 0] }).push { cls:=.type "enumerate",data:=.fields #[.none,.bool false,.ref s.heap.objs.size,rawInt 0,.none,.none] } } /\
   ((s.heap.push { cls:=.type (vZ f),data:=.fields #[.ref l,.int 0 0] }).push { cls:=.type "enumerate",data:=.fields #[.none,.bool false,.ref s.heap.objs.size,rawInt 0,.none,.none] }).get? (s.heap.push { cls:=.type (vZ f),data:=.fields #[.ref l,.int 0 0] }).objs.size=some { cls:=.type "enumerate",data:=.fields #[.none,.bool false,.ref s.heap.objs.size,rawInt 0,.none,.none] }:=by
  have hz:(s.heap.push { cls:=.type (vZ f),data:=.fields #[.ref l,.int 0 0] }).objs.size=s.heap.objs.size + 1:=Heap.size_push ..
  have he:=Heap.get?_push_size (s.heap.push { cls:=.type (vZ f),data:=.fields #[.ref l,.int 0 0] })
   (o:={ cls:=.type "enumerate",data:=.fields #[.none,.bool false,.ref s.heap.objs.size,rawInt 0,.none,.none] }) rfl
  refine ⟨?_,he⟩;rw [hz] at he;rw [hz];exact h _ he (.of (Heap.get?_push_of_some _ (Heap.get?_push_size _ rfl)) rfl rfl) (by rw [Heap.size_push,hz]) fun b o x=>Heap.get?_push_of_some _ (Heap.get?_push_of_some _ x)
 obtain ⟨⟨oc,od,odt,osl⟩,n,ho,hc,hd⟩:=hl.obj;have hc':oc=.type (UR f):=hc;have hd':odt=.seq items n:=hd;subst hc' hd';cases f
 ·exact callType_new F.called_enumerate (by decide) (F.typeCall_enumerate_1 _) (F.newCall_enumerate_1 _) (fun obj=>F.args_object_init_2 obj _) F.entry_enumerate_new
   (Ad l items n od osl) ⟨ho,⟨_,fin.2,rfl⟩,fin.1⟩
 ·exact callType_new F.called_enumerate (by decide) (F.typeCall_enumerate_1 _) (F.newCall_enumerate_1 _) (fun obj=>F.args_object_init_2 obj _) F.entry_enumerate_new
   (Al l items n od osl) ⟨ho,⟨_,fin.2,rfl⟩,fin.1⟩
def HU (f:Bool) (K:PySem.W.Frag) (ta:TA):TI:=fun σ H R=>ta σ H fun vs H1=>∃ a,vs=[.ref a]/\(∃ xs,pX f K H1 a xs)/\R (Rv f K a) H1
variable {p tpos:Pos}
theorem Gr {a:Expr} {ta:TA} {pos:Pos} (hg:Gl X "enumerate") (hm:X.mg "enumerate"=none) (ha:PA X [a] ta) (hs:starEach [a] X.env=[(false,eval a X.env)]) :
  PI X (.Tuple elts kk tpos) (.Call (.Name "enumerate" p) [a] [] pos) (HU f X.K ta):=by
 intro pins s σ H R I h;refine Call_ (tH I hg hm boot_enumerate (PyProof.Rows.callWith_type1 (bD (ha pos pins s σ H _ I h) fun us s1 ⟨vs,H1,I1,r1,q1⟩=>?_) hs rfl));obtain ⟨a,e,⟨xs,hq⟩,q⟩:=q1;subst e
 cases r1 with
 | cons r rr =>
  cases rr;cases r;obtain ⟨its,rv,p,hz⟩:=AM I1 hq;refine Hi p fun h' he hit hsz hk=>?_;refine wpAny_pyIter_enum (s:={ s1 with heap:=h' }) he ?_;have I2:L2.Inv X pins σ H1 { s1 with heap:=h',toks:=s1.toks }:=I1.kept hk;refine ⟨s1.heap.objs.size + 1,[s1.heap.objs.size + 1,s1.heap.objs.size],_,_,H1,rfl,I2,Lf f a s1.heap.objs.size (s1.heap.objs.size + 1),⟨⟨_,he⟩,hit⟩,fun b hb=>?_,q⟩;have e:b=s1.heap.objs.size + 1\/b=s1.heap.objs.size:=by simpa using hb
  rcases e with rfl | rfl
  ·exact I1.fpOk (Nat.le_succ _) (I1.hok.fresh (Nat.le_succ _))
  ·exact I1.fpOk (Nat.le_refl _) (I1.hok.fresh (Nat.le_refl _))
def numbered (us:List U):List U:=us.zipIdx.map fun p=>.tup [.int (p.2:Nat),p.1]
theorem kX (us:List U):(numbered us).length=us.length:=by simp [numbered]
theorem nR {x:U} (h:(numbered us)[i]?=some x):∃ u,us[i]?=some u/\x=.tup [.int i,u]:=by
 simp only [numbered,List.getElem?_map,List.getElem?_zipIdx] at h
 cases e:us[i]? with
 | none=>rw [e] at h;simp at h
 | some u=>rw [e] at h;simp at h;exact ⟨u,rfl,h.symm⟩
theorem CV (sq:Lq f K H M a vs) (r:aI K H M us vs):Walk K (Rv f K a) ⟨none,numbered us⟩ H M:=by
 refine ⟨fun H1 M1 s rm _ i u e=>?_,fun H1 M1 s rm _=>⟨vs,sq H1 M1 s,by show vs.length=(numbered us).length;rw [kX,r.length]⟩⟩;obtain ⟨w,e1,rfl⟩:=nR e;obtain ⟨v,e2,ru⟩:=r.get e1;refine ⟨⟨vs,v,sq H1 M1 s,e2⟩,fun x H2 y=>?_⟩;obtain ⟨p,v',y,hp,rfl,rfl⟩:=y
 have:=y vs (sq _ M1 s)
 rw [e2] at this;cases this;have st:=aQ.laid (o:=.tup [.int i,v]) rm hp
 have rr:aI K H1 M1 [.int i,w] [.int i,v]:=by
  simp only [aI];exact ⟨_,_,rfl,c8,_,_,rfl,ru.stp s,rfl⟩
 exact ⟨st,rm.laid hp,zY (rm.no hp) bY (rr.stp st)⟩
def rT (ta:UA):UI:=fun τ M R=>ta τ M fun us M1=>match us with
 | [.tup us]=>R ⟨none,numbered us⟩ M1
 | _=>False
variable {ta':UA}
theorem ND {ta:TA} (h:lA K ta ta'):sV K (HU false K ta) (rT ta'):=fun σ τ H M R' rs rm q R c=>h σ τ H M _ rs rm q _ fun us vs M1 H1 s1 rm1 ru h1=>by
 split at h1
 ·rename_i xs
  obtain ⟨v,rfl,a⟩:=ru.one;simp only [aM] at a;obtain ⟨a,vs,rfl,m,r⟩:=a;refine ⟨a,rfl,⟨vs,?_⟩,c _ _ M1 H1 s1 rm1 (CV (Vw m) r) h1⟩;exact .inl (.inl m.2)
 ·exact h1.elim
theorem wQ {D:Dat} {a:Expr} {pos:Pos} {ta:UA} (hm:D.mg "enumerate"=none) (ha:mP D [a] ta) (hg:D.sc.names.lookup ("enumerate":Str)=some .globalImplicit:=by rfl) (hs:∀ env,starEach [a] env=[(false,eval a env)]:=by intro _;rfl):zO D (.Tuple elts kk tpos) (.Call (.Name "enumerate" p) [a] [] pos) (rT ta):=by
 obtain ⟨_,q,s⟩:=ha;exact ⟨_,fun X h=>h.K ▸ Gr (by show X.env.scope.names.lookup _=_;rw [h.sc];exact hg) (by rw [h.mg];exact hm) (q X h) (hs _),ND s⟩
def pB (ta:UA):UI:=fun τ M R=>ta τ M fun us M1=>match us with
 | [.lst us]=>R ⟨none,numbered us⟩ M1
 | _=>False
theorem K7 {ta:TA} (h:lA K ta ta'):sV K (HU true K ta) (pB ta'):=fun σ τ H M R' rs rm q R c=>h σ τ H M _ rs rm q _ fun us vs M1 H1 s1 rm1 ru h1=>by
 split at h1
 ·rename_i xs
  obtain ⟨v,rfl,a⟩:=ru.one;simp only [aM] at a;obtain ⟨a,vs,rfl,m,r⟩:=a;refine ⟨a,rfl,⟨vs,?_⟩,c _ _ M1 H1 s1 rm1 (CV (J5 m) r) h1⟩
  rcases m with ⟨_,m⟩ | k
  ·exact .inl m
  ·exact .inr k
 ·exact h1.elim
theorem Dd {D:Dat} {a:Expr} {pos:Pos} {ta:UA} (hm:D.mg "enumerate"=none) (ha:mP D [a] ta) (hg:D.sc.names.lookup ("enumerate":Str)=some .globalImplicit:=by rfl) (hs:∀ env,starEach [a] env=[(false,eval a env)]:=by intro _;rfl):zO D (.Tuple elts kk tpos) (.Call (.Name "enumerate" p) [a] [] pos) (pB ta):=by
 obtain ⟨_,q,s⟩:=ha;exact ⟨_,fun X h=>h.K ▸ Gr (by show X.env.scope.names.lookup _=_;rw [h.sc];exact hg) (by rw [h.mg];exact hm) (q X h) (hs _),K7 s⟩
mutual
def gI (K:PySem.W.Frag) (H:Hp):PyData->V->Prop
 | .none,v=>v=.non
 | .bool b,v=>v=.bl b
 | .int i,v=>v=.int i
 | .str z,v=>v=.str z
 | .list ds,v=>∃ a xs,v=.ref a/\eR K H a xs/\cU K H ds xs
 | .tuple ds,v=>∃ a xs,v=.ref a/\fR K H a xs/\cU K H ds xs
 | .dict _,_=>False
def cU (K:PySem.W.Frag) (H:Hp):List PyData->List V->Prop
 | [],vs=>vs=[]
 | d :: ds,vs=>∃ v vs',vs=v :: vs'/\gI K H d v/\cU K H ds vs'
end
mutual
theorem gI.reads {X:Cx} {pins:List (Addr × Obj)} {σ:L2.St} {H:Hp} {s:Shared} (I:L2.Inv X pins σ H s):∀ {d:PyData} {v:V} {u:Value},gI X.K H d v->RelV v u->∃ as,Reads s.heap u d as
 | .none,v,u,h,r=>by simp only [gI] at h;subst h;cases r;exact ⟨_,.none⟩
 | .bool b,v,u,h,r=>by simp only [gI] at h;subst h;cases r;exact ⟨_,.bool b⟩
 | .int i,v,u,h,r=>by simp only [gI] at h;subst h;obtain ⟨t,rfl⟩:=r;exact ⟨_,.int i t⟩
 | .str z,v,u,h,r=>by simp only [gI] at h;subst h;obtain ⟨t,rfl⟩:=r;exact ⟨_,.str z t⟩
 | .list ds,v,u,h,r=>by
  simp only [gI] at h;obtain ⟨a,xs,rfl,q,hs⟩:=h;cases r;obtain ⟨its,rv,p,hz⟩:=I.list q;obtain ⟨as,ra⟩:=cU.reads I hs rv;obtain ⟨o,h1,h2,n,h3⟩:=p.isList;exact ⟨_,.list h1 h2 h3 (by simpa using ra)⟩
 | .tuple ds,v,u,h,r=>by
  simp only [gI] at h;obtain ⟨a,xs,rfl,q,hs⟩:=h;cases r;obtain ⟨its,rv,p,hz⟩:=I.tuple q;obtain ⟨as,ra⟩:=cU.reads I hs rv;obtain ⟨o,h1,h2,n,h3⟩:=(show s.heap.IsTuple a its.toArray from p);exact ⟨_,.tuple h1 h2 h3 (by simpa using ra)⟩
 | .dict _,v,u,h,r=>by simp only [gI] at h
theorem cU.reads {X:Cx} {pins:List (Addr × Obj)} {σ:L2.St} {H:Hp} {s:Shared} (I:L2.Inv X pins σ H s):∀ {ds:List PyData} {vs:List V} {us:List Value},cU X.K H ds vs->Vals vs us->∃ as,ReadsAll s.heap us ds as
 | [],vs,us,h,r=>by simp only [cU] at h;subst h;cases r;exact ⟨_,.nil⟩
 | d :: ds,vs,us,h,r=>by
  simp only [cU] at h;obtain ⟨v,vs',rfl,h1,h2⟩:=h
  cases r with
  | cons r rr =>
   obtain ⟨as,ra⟩:=gI.reads I h1 r;obtain ⟨bs,rb⟩:=cU.reads I h2 rr;exact ⟨_,.cons ra rb⟩
end
def Lx (K:PySem.W.Frag) (neg:Bool):R2:=fun x y H Q=>∃ d d',gI K H d x/\gI K H d' y/\d.canLay0=true/\d'.canLay0=true/\min d.depth d'.depth<=64/\Q (.bl (if neg then !PyData.eqv d d' else PyData.eqv d d')) H
theorem Rt {k:Nat} (hr:cV k X.A):dI X (compareOp .Eq) (Lx X.K false):=by
 intro pins s σ H x y v u Q I rx ry h;obtain ⟨d,d',h1,h2,c1,c2,hd,q⟩:=h;obtain ⟨as,ra⟩:=h1.reads I rx;obtain ⟨bs,rb⟩:=h2.reads I ry;exact SeqAt.compareEq_reads ra rb c1 c2 (by have:=hr.units;omega) ⟨.bl _,H,I,rfl,q⟩
theorem Rr {k:Nat} (hr:cV k X.A):dI X (compareOp .NotEq) (Lx X.K true):=by
 intro pins s σ H x y v u Q I rx ry h;obtain ⟨d,d',h1,h2,c1,c2,hd,q⟩:=h;obtain ⟨as,ra⟩:=h1.reads I rx;obtain ⟨bs,rb⟩:=h2.reads I ry;exact SeqAt.compareNe_reads ra rb c1 c2 (by have:=hr.units;omega) ⟨.bl _,H,I,rfl,q⟩
mutual
def toD:U->Option PyData
 | .non=>some .none
 | .bl b=>some (.bool b)
 | .int i=>some (.int i)
 | .str z=>some (.str z)
 | .tup us=>(cN us).map .tuple
 | .lst us=>(cN us).map .list
 | .ty _=>none
 | .ref _=>none
 | .dic _ _ _=>none
def cN:List U->Option (List PyData)
 | []=>some []
 | u :: us=>match toD u,cN us with
  | some d,some ds=>some (d :: ds)
  | _,_=>none
end
def sX (M:aG) (u:U):Option PyData:=match u with
 | .ref a=>match M a with
  | some (.lst us)=>(cN us).map .list
  | _=>none
 | u=>toD u
mutual
theorem G4 {K:PySem.W.Frag} {H:Hp} {M:aG}:∀ {u:U} {v:V} {d:PyData},aM K H M u v->toD u=some d->gI K H d v
 | .non,v,d,r,e=>by simp only [toD,Option.some.injEq] at e;subst e;simp only [gI];exact r.non
 | .bl b,v,d,r,e=>by simp only [toD,Option.some.injEq] at e;subst e;simp only [gI];exact r.bl
 | .int i,v,d,r,e=>by simp only [toD,Option.some.injEq] at e;subst e;simp only [gI];exact r.int
 | .str i,v,d,r,e=>by simp only [toD,Option.some.injEq] at e;subst e;simp only [gI];exact r.str
 | .tup us,v,d,r,e=>by
  simp only [toD] at e
  cases e2:cN us with
  | none=>rw [e2] at e;simp at e
  | some ds =>
   rw [e2] at e;simp at e;subst e;obtain ⟨a,vs,rfl,q,rs⟩:=r.tup;simp only [gI];exact ⟨a,vs,rfl,q,nX rs e2⟩
 | .lst us,v,d,r,e=>by
  simp only [toD] at e
  cases e2:cN us with
  | none=>rw [e2] at e;simp at e
  | some ds =>
   rw [e2] at e;simp at e;subst e;obtain ⟨a,vs,rfl,q,rs⟩:=r.lst;simp only [gI];exact ⟨a,vs,rfl,q,nX rs e2⟩
 | .ty _,v,d,r,e=>by simp [toD] at e
 | .ref _,v,d,r,e=>by simp [toD] at e
 | .dic _ _ _,v,d,r,e=>by simp [toD] at e
theorem nX {K:PySem.W.Frag} {H:Hp} {M:aG}:∀ {us:List U} {vs:List V} {ds:List PyData},aI K H M us vs->cN us=some ds->cU K H ds vs
 | [],vs,ds,r,e=>by simp only [cN,Option.some.injEq] at e;subst e;simp only [cU];exact r.inv_nil
 | u :: us,vs,ds,r,e=>by
  obtain ⟨v,vs',rfl,a,b⟩:=r.inv_cons;simp only [cN] at e
  cases e1:toD u with
  | none=>rw [e1] at e;simp at e
  | some d =>
   cases e2:cN us with
   | none=>rw [e1,e2] at e;simp at e
   | some ds' =>
    rw [e1,e2] at e;simp at e;subst e;simp only [cU];exact ⟨v,vs',rfl,G4 a e1,nX b e2⟩
end
variable {v:V}
theorem vF {u:U} {d:PyData} (rm:RelM K H M) (r:aM K H M u v) (e:sX M u=some d):gI K H d v:=by
 cases u with
 | ref a =>
  simp only [sX] at e;split at e
  ·rename_i us hM
   cases e2:cN us with
   | none=>rw [e2] at e;simp at e
   | some ds =>
    rw [e2] at e;simp at e;subst e;obtain ⟨vs,h1,rs⟩:=rm a _ hM;cases r.ref;simp only [gI];exact ⟨a,vs,rfl,.inl (.inl h1),nX rs e2⟩
  ·cases e
 | _=>exact G4 r (by simpa only [sX] using e)
def So (neg:Bool):dY:=fun x y M Q=>∃ d d',sX M x=some d/\sX M y=some d'/\d.canLay0=true/\d'.canLay0=true/\min d.depth d'.depth<=64/\Q (.bl (if neg then !PyData.eqv d d' else PyData.eqv d d')) M
variable {neg:Bool}
theorem Gk:dG K (Lx K neg) (So neg):=fun x y u w H M Q' rm ru rw h Q c=>by
 obtain ⟨d,d',e1,e2,c1,c2,hd,q⟩:=h;exact ⟨d,d',vF rm ru e1,vF rm rw e2,c1,c2,hd,c.here rm fQ q⟩
variable {D:Dat}
def lE:U->Bool
 | .non=>true
 | .bl _=>true
 | .int _=>true
 | .str _=>true
 | _=>false
def uA:U->U->Bool
 | .non,.non=>true
 | .bl a,.bl b=>a == b
 | .bl a,.int j=>(if a then 1 else 0) == j
 | .int i,.bl b=>i == (if b then 1 else 0)
 | .int i,.int j=>i == j
 | .str x,.str y=>x == y
 | _,_=>false
def items (M:aG):U->Option (List U)
 | .tup us=>some us
 | .lst us=>some us
 | .ref a=>match M a with
  | some (.lst us)=>some us
  | _=>none
 | _=>none
def lR (neg:Bool):dY:=fun x y M Q=>match items M y with
 | some us=>lE x=true/\us.all lE=true/\Q (.bl (if neg then !us.any (fun u=>uA u x) else us.any (fun u=>uA u x))) M
 | none=>False
theorem Fd {u:U} (r:aM K H M u v) (f:lE u=true):i8 v=true:=by
 cases u with
 | non=>cases r.non;rfl
 | bl b=>cases r.bl;rfl
 | int b=>cases r.int;rfl
 | str b=>cases r.str;rfl
 | _=>exact absurd (show false=true from f) Bool.false_ne_true
theorem Qg {u w:U} {x:V} (r:aM K H M u v) (r':aM K H M w x) (f:lE u=true) (f':lE w=true):rY v x=uA u w:=by
 cases u <;> (first | (cases r.non) | (cases r.bl) | (cases r.int) | (cases r.str) | exact absurd (show false=true from f) Bool.false_ne_true) <;> cases w <;>
  (first | (cases r'.non) | (cases r'.bl) | (cases r'.int) | (cases r'.str) | exact absurd (show false=true from f') Bool.false_ne_true) <;> rfl
theorem Cu {K:PySem.W.Frag} {H:Hp} {M:aG}:∀ {us:List U} {vs:List V},aI K H M us vs->us.all lE=true->vs.all i8=true
 | [],vs,r,_=>by cases r.inv_nil;rfl
 | u :: us,vs,r,f=>by
  obtain ⟨v,vs',rfl,a,b⟩:=r.inv_cons;rw [List.all_cons,Bool.and_eq_true] at f ⊢;exact ⟨Fd a f.1,Cu b f.2⟩
theorem GV {K:PySem.W.Frag} {H:Hp} {M:aG} {w:U} {x:V} (r':aM K H M w x) (f':lE w=true):∀ {us:List U} {vs:List V},aI K H M us vs->us.all lE=true->OE x vs=us.any fun u=>uA u w
 | [],vs,r,_=>by cases r.inv_nil;rfl
 | u :: us,vs,r,f=>by
  obtain ⟨v,vs',rfl,a,b⟩:=r.inv_cons;rw [List.all_cons,Bool.and_eq_true] at f
  have:=GV r' f' b f.2
  unfold OE at this ⊢;rw [List.any_cons,List.any_cons,this,Qg a r' f.1 f']
theorem CF {u:U} (rm:RelM K H M) (r:aM K H M u v) (e:items M u=some us):∃ p xs,v=.ref p/\(eR K H p xs\/fR K H p xs)/\aI K H M us xs:=by
 cases u with
 | tup us'=>cases e;obtain ⟨a,vs,rfl,q,rs⟩:=r.tup;exact ⟨a,vs,rfl,.inr q,rs⟩
 | lst us'=>cases e;obtain ⟨a,vs,rfl,q,rs⟩:=r.lst;exact ⟨a,vs,rfl,.inl q,rs⟩
 | ref a =>
  simp only [items] at e;split at e
  ·rename_i us' hM
   cases e;obtain ⟨vs,h1,rs⟩:=rm a _ hM;exact ⟨a,vs,r.ref,.inl (.inl (.inl h1)),rs⟩
  ·cases e
 | _=>cases e
theorem Q7:dG K (UY K neg) (lR neg):=fun x y u w H M Q' rm ru rw h Q c=>by
 unfold lR at h;split at h
 ·rename_i us e
  obtain ⟨f,fs,q⟩:=h;obtain ⟨p,xs,rfl,hs,rs⟩:=CF rm rw e;refine ⟨p,xs,rfl,hs,Fd ru f,Cu rs fs,?_⟩;rw [GV ru f rs fs];exact c.here rm fQ q
 ·exact h.elim
theorem S7:nS D .In (lR false):=⟨⟨_,fun X h=>h.K ▸ JH,Q7⟩⟩
def Aa (neg:Bool):dY:=fun x y M Q=>match J8 x y with
 | some b=>Q (.bl (if neg then !b else b)) M
 | none=>So neg x y M Q
theorem lI:nS D .Eq (Aa false):=⟨⟨_,fun X h=>h.K ▸ Uj.or (Rt h.room),fun x y u w H M Q' rm ru rw h Q c=>by
 unfold Aa at h;split at h
 ·rename_i b e
  obtain ⟨h1,h2⟩:=F5 ru rw e;exact .inl ⟨h1,c.here rm (by rw [h2];exact fQ) h⟩
 ·exact .inr (Gk x y u w H M Q' rm ru rw h Q c)⟩⟩
theorem yY:nS D .NotEq (Aa true):=⟨⟨_,fun X h=>h.K ▸ TV.or (Rr h.room),fun x y u w H M Q' rm ru rw h Q c=>by
 unfold Aa at h;split at h
 ·rename_i b e
  obtain ⟨h1,h2⟩:=F5 ru rw e;exact .inl ⟨h1,c.here rm (by rw [h2];exact fQ) h⟩
 ·exact .inr (Gk x y u w H M Q' rm ru rw h Q c)⟩⟩
structure Zp (z TI TO i1 i2:Addr) (f1 f2:List Addr):Prop where
 TIz:TI≠z
 TOz:TO≠z
 i1z:i1≠z
 i2z:i2≠z
 TITO:TI≠TO
 TIi1:TI≠i1
 TIi2:TI≠i2
 TOi1:TO≠i1
 TOi2:TO≠i2
 i12:i1≠i2
 zf1:z ∉ f1
 zf2:z ∉ f2
 Tf1:TO ∉ f1
 Tf2:TO ∉ f2
 if2:i1 ∉ f2
 if1:i2 ∉ f1
theorem Draws.same {fp:List Addr} {n:Nat} {P:Nat->Value->Prop} {St:Nat->Heap->Prop} (D:Draws prog w A it fp n P St) (st:St i h) (sb:Heap.ExtBut c h h') (hc:c ∉ fp):St i h' :=
 D.frame _ _ _ st fun b hb o e=>sb b o (fun q=>hc (q ▸ hb)) e
section
variable {prog:Program} {w:World} {A:Around} {E:Value->Shared->Prop} {s:Shared} {z TI TO i1 i2:Addr} {f1 f2:List Addr} {n1 n2:Nat} {P1 P2:Nat->Value->Prop} {S1 S2:Nat->Heap->Prop} {i:Nat} {a b:Value}
theorem Mo (Z:Zp z TI TO i1 i2 f1 f2) (D1:Draws prog w A i1 f1 n1 P1 S1) (D2:Draws prog w A i2 f2 n2 P2 S2) {Q:Value->Shared->Prop}
  (hz:IsZip s.heap z TI TO .none) (hTI:IsPair s.heap TI (.ref i1) (.ref i2)) (hTO:IsPair s.heap TO a b) (h1:S1 i s.heap) (h2:S2 i s.heap) (l1:i < n1) (l2:i < n2)
  (hQ:∀ x y h' tk,P1 i x->P2 i y->IsZip h' z TI TO (rawInt s.heap.objs.size)->IsPair h' TO x y->S1 (i + 1) h'->S2 (i + 1) h'->IsPair h' s.heap.objs.size x y ->
   (∀ c o,c≠z->c≠TO->c≠i1->c≠i2->s.heap.get? c=some o->h'.get? c=some o)->Q (.ref s.heap.objs.size) { s with heap:=h',toks:=tk }) :
  wpAny (model prog w) A (Builtin.«zip.__next__» ⟨[.ref z],[]⟩) (fun fin s'=>∃ v,fin=.done (.ret v)/\Q v s') E s:=by
 show wpAny _ _ (field (.ref z) 2 >>= _) _ _ _;refine wpAny_bind (wpAny_field hz rfl (x:=.bool false) rfl ?_);show wpAny _ _ (field (.ref z) 3 >>= _) _ _ _;refine wpAny_bind (wpAny_field hz rfl (x:=.ref TI) rfl ?_);refine wpAny_bind (wpAny_seqItems hTI rfl ?_);show wpAny _ _ (Builtin.SmallTypes.ownedTupleIsFree (.ref z) >>= _) _ _ _;refine wpAny_bind ?_;unfold Builtin.SmallTypes.ownedTupleIsFree;refine wpAny_bind (wpAny_field hz rfl (x:=.none) rfl (wpAny_pure ?_));simp only [if_true];refine wpAny_bind (wpAny_rule ?_);refine wpAny_bind (wpAny_field hz rfl (x:=.ref TO) rfl ?_);refine wpAny_bind (wpAny_setField_rec hz (by simp) fun g1 hz1 hs1=>?_)
 replace hz1:IsZip g1 z TI TO .ellipsis:=hz1
 refine wpAny_bind ?_;simp only [List.zipIdx_cons,List.zipIdx_nil,List.forIn_cons,List.forIn_nil];refine wpAny_bind (wpAny_bind (wpAny_onRaise ?_));show wpAny _ _ (Builtin.SmallTypes.nextOf (.ref i1) >>= _) _ _ _;refine wpAny_bind (D1.item i _ _ _ l1 (Draws.same D1 h1 hs1.extBut Z.zf1) fun x g2 tk2 px cO hs2=>wpAny_pure ?_);have hTO2:IsPair g2 TO a b:=hs2.extBut _ _ Z.TOi1 (hs1.extBut _ _ Z.TOz hTO);refine wpAny_bind (wpAny_seqItems hTO2 rfl ?_);refine wpAny_bind (wpAny_updateSeq_pair hTO2 fun g3 hTO3 hs3=>?_)
 replace hTO3:IsPair g3 TO x b:=hTO3
 refine wpAny_bind (wpAny_letGo (wpAny_pure ?_));refine wpAny_bind (wpAny_bind (wpAny_onRaise ?_));show wpAny _ _ (Builtin.SmallTypes.nextOf (.ref i2) >>= _) _ _ _;refine wpAny_bind (D2.item i _ _ _ l2 (Draws.same D2 (Draws.same D2 (Draws.same D2 h2 hs1.extBut Z.zf2) hs2.extBut Z.if2) hs3.extBut Z.Tf2) fun y g4 tk4 py st4 hs4=>wpAny_pure ?_);have hTO4:IsPair g4 TO x b:=hs4.extBut _ _ Z.TOi2 hTO3;refine wpAny_bind (wpAny_seqItems hTO4 rfl ?_);refine wpAny_bind (wpAny_updateSeq_pair hTO4 fun g5 hTO5 hs5=>?_)
 replace hTO5:IsPair g5 TO x y:=hTO5
 refine wpAny_bind (wpAny_letGo (wpAny_pure (wpAny_pure ?_)));refine wpAny_bind (wpAny_seqItems hTO5 rfl ?_);refine wpAny_bind (wpAny_newTuple ?_);have hsz:g5.objs.size=s.heap.objs.size:=by rw [hs5.1,hs4.1,hs3.1,hs2.1,hs1.1]
 have hz5:IsZip g5 z TI TO .ellipsis:=hs5.extBut _ _ Z.TOz.symm (hs4.extBut _ _ Z.i2z.symm (hs3.extBut _ _ Z.TOz.symm (hs2.extBut _ _ Z.i1z.symm hz1)))
 have hk5:∀ c o,c≠z->c≠TO->c≠i1->c≠i2->s.heap.get? c=some o->g5.get? c=some o:=fun c o c1 c2 c3 c4 e =>
  hs5.extBut _ _ c2 (hs4.extBut _ _ c4 (hs3.extBut _ _ c2 (hs2.extBut _ _ c3 (hs1.extBut _ _ c1 e))))
 have h15:S1 (i + 1) g5:=Draws.same D1 (Draws.same D1 (Draws.same D1 cO hs3.extBut Z.Tf1) hs4.extBut Z.if1) hs5.extBut Z.Tf1;have h25:S2 (i + 1) g5:=Draws.same D2 st4 hs5.extBut Z.Tf2;have hzlt:z < g5.objs.size:=Heap.lt_size hz5;show wpAny _ _ (Builtin.SmallTypes.ownedTupleHandOut (.ref z) (.ref g5.objs.size) >>= _) _ _ _;refine wpAny_bind ?_;unfold Builtin.SmallTypes.ownedTupleHandOut
 have hz6:IsZip (g5.push { cls:=.type "tuple",data:=.seq #[x,y] }) z TI TO .ellipsis:=Heap.get?_push_of_some _ hz5
 refine wpAny_bind (wpAny_setField_rec hz6 (by simp) fun g7 hz7 hs7=>?_)
 replace hz7:IsZip g7 z TI TO (rawInt g5.objs.size):=hz7
 refine wpAny_setField_rec hz7 (by simp) fun g8 hz8 hs8=>?_
 replace hz8:IsZip g8 z TI TO (rawInt g5.objs.size):=hz8
 have up:∀ c o,c≠z->g5.get? c=some o->g8.get? c=some o:=fun c o c1 e=>hs8.extBut _ _ c1 (hs7.extBut _ _ c1 (Heap.get?_push_of_some _ e));have hT8:IsPair g8 g5.objs.size x y:=hs8.extBut _ _ (Nat.ne_of_gt hzlt) (hs7.extBut _ _ (Nat.ne_of_gt hzlt) (Heap.get?_push_size _ rfl));rw [hsz] at hz8 hT8;refine wpAny_pure ⟨_,rfl,?_⟩;show Q (.ref g5.objs.size) _;rw [hsz];exact hQ x y g8 _ px py hz8 (up _ _ Z.TOz hTO5) (D1.frame _ _ _ h15 fun b hb o e=>up b o (fun q=>Z.zf1 (q ▸ hb)) e) (D2.frame _ _ _ h25 fun b hb o e=>up b o (fun q=>Z.zf2 (q ▸ hb)) e) hT8 fun c o c1 c2 c3 c4 e=>up c o c1 (hk5 c o c1 c2 c3 c4 e)
theorem QI (Z:Zp z TI TO i1 i2 f1 f2) (D1:Draws prog w A i1 f1 n1 P1 S1) (D2:Draws prog w A i2 f2 n2 P2 S2) {Q:Fin->Shared->Prop}
  (hz:IsZip s.heap z TI TO .none) (hTI:IsPair s.heap TI (.ref i1) (.ref i2)) (hTO:IsPair s.heap TO a b) (h1:S1 i s.heap) (h2:S2 i s.heap) (l1:i<=n1) (hi:i=min n1 n2)
  (hE:∀ h' e tk,(∀ c o,c≠z->c≠TO->c≠i1->c≠i2->s.heap.get? c=some o->h'.get? c=some o)->(∃ o,h'.get? e=some o/\o.cls=.type "StopIteration")->E (.ref e) { s with heap:=h',toks:=tk }) :
  wpAny (model prog w) A (Builtin.«zip.__next__» ⟨[.ref z],[]⟩) Q E s:=by
 show wpAny _ _ (field (.ref z) 2 >>= _) _ _ _;refine wpAny_bind (wpAny_field hz rfl (x:=.bool false) rfl ?_);show wpAny _ _ (field (.ref z) 3 >>= _) _ _ _;refine wpAny_bind (wpAny_field hz rfl (x:=.ref TI) rfl ?_);refine wpAny_bind (wpAny_seqItems hTI rfl ?_);show wpAny _ _ (Builtin.SmallTypes.ownedTupleIsFree (.ref z) >>= _) _ _ _;refine wpAny_bind ?_;unfold Builtin.SmallTypes.ownedTupleIsFree;refine wpAny_bind (wpAny_field hz rfl (x:=.none) rfl (wpAny_pure ?_));simp only [if_true];refine wpAny_bind (wpAny_rule ?_);refine wpAny_bind (wpAny_field hz rfl (x:=.ref TO) rfl ?_);refine wpAny_bind (wpAny_setField_rec hz (by simp) fun g1 hz1 hs1=>?_)
 replace hz1:IsZip g1 z TI TO .ellipsis:=hz1
 refine wpAny_bind ?_;simp only [List.zipIdx_cons,List.zipIdx_nil,List.forIn_cons,List.forIn_nil];refine wpAny_bind (wpAny_bind (wpAny_onRaise ?_));show wpAny _ _ (Builtin.SmallTypes.nextOf (.ref i1) >>= _) _ _ _;have hA:S1 i g1:=Draws.same D1 h1 hs1.extBut Z.zf1
 by_cases hlt:i < n1
 ·have hn2:i=n2:=by omega
  refine wpAny_bind (D1.item i _ _ _ hlt hA fun x g2 tk2 px cO hs2=>wpAny_pure ?_);have hTO2:IsPair g2 TO a b:=hs2.extBut _ _ Z.TOi1 (hs1.extBut _ _ Z.TOz hTO);refine wpAny_bind (wpAny_seqItems hTO2 rfl ?_);refine wpAny_bind (wpAny_updateSeq_pair hTO2 fun g3 hTO3 hs3=>?_);refine wpAny_bind (wpAny_letGo (wpAny_pure ?_));refine wpAny_bind (wpAny_bind (wpAny_onRaise ?_));show wpAny _ _ (Builtin.SmallTypes.nextOf (.ref i2) >>= _) _ _ _;refine wpAny_bind (D2.done _ _ _ (hn2 ▸ Draws.same D2 (Draws.same D2 (Draws.same D2 h2 hs1.extBut Z.zf2) hs2.extBut Z.if2) hs3.extBut Z.Tf2) fun g4 e hs4 he=>?_);obtain ⟨oe,hoe,hce⟩:=he;have hz4:IsZip g4 z TI TO .ellipsis:=hs4 _ _ Z.i2z.symm (hs3.extBut _ _ Z.TOz.symm (hs2.extBut _ _ Z.i1z.symm hz1));have hez:e≠z:=fun x=>by subst x;rw [hz4] at hoe;cases hoe;simp at hce
  exact wpAny_setField_rec hz4 (by simp) fun g5 _ hs5=>hE g5 e _ (fun c o c1 c2 c3 c4 x=>hs5.extBut _ _ c1 (hs4 _ _ c4 (hs3.extBut _ _ c2 (hs2.extBut _ _ c3 (hs1.extBut _ _ c1 x))))) ⟨oe,hs5.extBut _ _ hez hoe,hce⟩
 ·have hn1:i=n1:=by omega
  refine wpAny_bind (D1.done _ _ _ (hn1 ▸ hA) fun g2 e hs2 he=>?_);obtain ⟨oe,hoe,hce⟩:=he;have hz2:IsZip g2 z TI TO .ellipsis:=hs2 _ _ Z.i1z.symm hz1;have hez:e≠z:=fun x=>by subst x;rw [hz2] at hoe;cases hoe;simp at hce
  exact wpAny_setField_rec hz2 (by simp) fun g3 _ hs3=>hE g3 e _ (fun c o c1 _ c3 _ x=>hs3.extBut _ _ c1 (hs2 _ _ c3 (hs1.extBut _ _ c1 x))) ⟨oe,hs3.extBut _ _ hez hoe,hce⟩
variable {Q:Option Value->Shared->Prop}
theorem Dk (Z:Zp z TI TO i1 i2 f1 f2) (D1:Draws prog w A.in1 i1 f1 n1 P1 S1) (D2:Draws prog w A.in1 i2 f2 n2 P2 S2)
  (hz:IsZip s.heap z TI TO .none) (hTI:IsPair s.heap TI (.ref i1) (.ref i2)) (hTO:IsPair s.heap TO a b) (h1:S1 i s.heap) (h2:S2 i s.heap) (l1:i < n1) (l2:i < n2)
  (hQ:∀ x y h' tk,P1 i x->P2 i y->IsZip h' z TI TO (rawInt s.heap.objs.size)->IsPair h' TO x y->S1 (i + 1) h'->S2 (i + 1) h'->IsPair h' s.heap.objs.size x y ->
   (∀ c o,c≠z->c≠TO->c≠i1->c≠i2->s.heap.get? c=some o->h'.get? c=some o)->Q (some (.ref s.heap.objs.size)) { s with heap:=h',toks:=tk }) :
  wpAny (model prog w) A (pyNext (.ref z)) Q E s:=by
 have hT:s.TypeIs (.ref z) "zip":=⟨_,hz,rfl⟩
 unfold pyNext
 exact wpAny_bind (wpAny_attempt (wpAny_callSpecial?_slot (name:=Str.ofString "__next__") hT PySem.F.slot_zip_next
  (wpAny_call_entry PySem.F.slot_zip_next hT PySem.F.entry_zip_next
   (Mo Z D1 D2 hz hTI hTO h1 h2 l1 l2 fun x y h' tk a1 a2 a3 a4 a5 a6 a7 a8=>wpAny_pure (hQ x y h' tk a1 a2 a3 a4 a5 a6 a7 a8)) (PySem.F.args_zip_next_1 _))))
theorem EM (Z:Zp z TI TO i1 i2 f1 f2) (D1:Draws prog w A.in1 i1 f1 n1 P1 S1) (D2:Draws prog w A.in1 i2 f2 n2 P2 S2)
  (hz:IsZip s.heap z TI TO .none) (hTI:IsPair s.heap TI (.ref i1) (.ref i2)) (hTO:IsPair s.heap TO a b) (h1:S1 i s.heap) (h2:S2 i s.heap) (l1:i<=n1) (hi:i=min n1 n2)
  (hQ:∀ h' tk,(∀ c o,c≠z->c≠TO->c≠i1->c≠i2->s.heap.get? c=some o->h'.get? c=some o)->Q none { s with heap:=h',toks:=tk }):wpAny (model prog w) A (pyNext (.ref z)) Q E s:=by
 have hT:s.TypeIs (.ref z) "zip":=⟨_,hz,rfl⟩
 unfold pyNext
 refine wpAny_bind (wpAny_attempt (wpAny_callSpecial?_slot (name:=Str.ofString "__next__") hT PySem.F.slot_zip_next
  (wpAny_call_entry PySem.F.slot_zip_next hT PySem.F.entry_zip_next (QI Z D1 D2 hz hTI hTO h1 h2 l1 hi fun h' e tk hk he=>?_) (PySem.F.args_zip_next_1 _))))
 obtain ⟨o,ho,hc⟩:=he
 refine wpAny_bind (wpAny_isInstance (T:="StopIteration") (b:=true) ⟨o,ho,hc⟩ isSubtype_stop ?_)
 exact wpAny_pure (hQ _ _ hk)
end
def Sk (f g:Bool) (K:PySem.W.Frag) (a c:Addr):It :=
  ⟨fun i H=>∃ xs ys x y,pX f K H a xs/\pX g K H c ys/\xs[i]?=some x/\ys[i]?=some y,
   fun i H v H'=>∃ p x y,(∀ xs,pX f K H a xs->xs[i]?=some x)/\(∀ ys,pX g K H c ys->ys[i]?=some y)/\H p=none/\v=.ref p/\H'=upd H p (.tup [x,y]),
   fun i H=>∃ xs ys,pX f K H a xs/\pX g K H c ys/\i=min xs.length ys.length⟩
variable {g:Bool} {ys:Array Value}
theorem OI {z TI TO i1 i2:Addr} {f0 u v:Value} {k1 k2:Nat} (hz:IsZip h z TI TO f0) (q:TI≠TO/\i1≠i2/\TO≠a/\TO≠c) (hTI:IsPair h TI (.ref i1) (.ref i2)) (hTO:IsPair h TO u v)
  (h1:m8 f h i1 a k1) (h2:m8 g h i2 c k2) (ha:lQ f h a xs) (hc:lQ g h c ys):Zp z TI TO i1 i2 [i1,a] [i2,c]:=by
 have iz:=fun {r:Bool} {i x:Addr} {k:Nat} (p:m8 r h i x k)=>let ⟨_,e,c,_⟩:=p.obj;mD e hz c rfl (by cases r <;> decide)
 have az:=fun {r:Bool} {x:Addr} {xs:Array Value} (p:lQ r h x xs)=>let ⟨_,_,e,c,_⟩:=p.obj;mD e hz c rfl (by cases r <;> decide)
 have ti:=fun {r:Bool} {i x t:Addr} {u v:Value} {k:Nat} (w:IsPair h t u v) (p:m8 r h i x k)=>let ⟨_,e,c,_⟩:=p.obj;mD w e rfl c (by cases r <;> decide)
 refine ⟨mD hTI hz rfl rfl (by decide),mD hTO hz rfl rfl (by decide),iz h1,iz h2,q.1,ti hTI h1,ti hTI h2,ti hTO h1,ti hTO h2,q.2.1,?_,?_,?_,?_,?_,?_⟩ <;> simp only [List.mem_cons,List.not_mem_nil,or_false,not_or]
 ·exact ⟨(iz h1).symm,(az ha).symm⟩
 ·exact ⟨(iz h2).symm,(az hc).symm⟩
 ·exact ⟨ti hTO h1,q.2.2.1⟩
 ·exact ⟨ti hTO h2,q.2.2.2⟩
 ·exact ⟨q.2.1,(hc.ne h1).symm⟩
 ·exact ⟨q.2.1.symm,(ha.ne h2).symm⟩
theorem Mx {pos:Pos} (f g:Bool) (a c z TI TO i1 i2:Addr) (q:TI≠TO/\i1≠i2/\TO≠a/\TO≠c) :
  Turn P w K (.Tuple elts kk pos) (Sk f g K a c) [z,TI,TO,i1,i2] z (fun i h=>IsZip h z TI TO .none/\IsPair h TI (.ref i1) (.ref i2)/\(∃ u v,IsPair h TO u v)/\m8 f h i1 a i/\m8 g h i2 c i) where
 mem:=by simp
 obj:=fun i h st b hb=>by
  obtain ⟨hz,hTI,⟨u,v,hTO⟩,h1,h2⟩:=st;obtain ⟨o1,e1,c1,d1⟩:=h1.obj;obtain ⟨o2,e2,c2,d2⟩:=h2.obj
  have:b=z\/b=TI\/b=TO\/b=i1\/b=i2:=by simpa using hb
  rcases this with rfl | rfl | rfl | rfl | rfl
  ·exact ⟨_,hz,fun v x=>by
    have x':Data.fields _=Data.cell v:=x
    cases x'⟩
  ·exact ⟨_,hTI,fun v x=>by
    have x':Data.seq _ _=Data.cell v:=x
    cases x'⟩
  ·exact ⟨_,hTO,fun v x=>by
    have x':Data.seq _ _=Data.cell v:=x
    cases x'⟩
  ·exact ⟨_,e1,fun v x=>by rw [d1] at x;cases x⟩
  ·exact ⟨_,e2,fun v x=>by rw [d2] at x;cases x⟩
 keep:=fun i h h' st k=>let ⟨hz,hTI,⟨u,v,hTO⟩,h1,h2⟩:=st
  ⟨k z (by simp) _ hz,k TI (by simp) _ hTI,⟨u,v,k TO (by simp) _ hTO⟩,h1.at fun o e=>k i1 (by simp) o e,h2.at fun o e=>k i2 (by simp) o e⟩
 item:=by
  intro X hP hw hK hc i pins s σ H E I hf st hg;subst hP hw hK;obtain ⟨hz,hTI,⟨u,v,hTO⟩,h1,h2⟩:=st;obtain ⟨xs,ys,x,y,hqx,hqy,hx,hy⟩:=hg;obtain ⟨its,rv,p,_⟩:=AM I hqx;obtain ⟨its',rv',p',_⟩:=AM I hqy;obtain ⟨x',hu,ru⟩:=rv.get hx;obtain ⟨y',hu',ru'⟩:=rv'.get hy;have Z:=OI hz q hTI hTO h1 h2 p p';have n1:a≠i1:=p.ne h1;have n2:c≠i2:=p'.ne h2;have hd:X.A.in1.handled=none:=I.ok.hd hc
  have lt1:i < its.toArray.size:=by
   have:=(List.getElem?_eq_some_iff.mp hu).1
   simpa using this
  have lt2:i < its'.toArray.size:=by
   have:=(List.getElem?_eq_some_iff.mp hu').1
   simpa using this
  refine Dk Z (oE f hd i1 a n1 its.toArray) (oE g hd i2 c n2 its'.toArray) hz hTI hTO ⟨h1,p⟩ ⟨h2,p'⟩ lt1 lt2 fun x1 y1 h' tk px py hz' hTO' s1 s2 hT hk=>?_;refine ⟨_,rfl,wpAny_letOwnedTupleGo_zip (s:={ s with heap:=h',toks:=tk }) hz' fun h'' hz'' hs''=>?_⟩
  have ex:x1=x':=by
   have h3:its[i]?=some x1:=by simpa using px
   rw [hu] at h3;exact (Option.some.inj h3).symm
  have ey:y1=y':=by
   have h3:its'[i]?=some y1:=by simpa using py
   rw [hu'] at h3;exact (Option.some.inj h3).symm
  subst ex ey;have lt:∀ {b o},s.heap.get? b=some o->s.heap.objs.size≠b:=fun e=>Nat.ne_of_gt (Heap.lt_size e);have hTT:jM h'' s.heap.objs.size #[x1,y1]:=⟨_,hs''.extBut _ _ (lt hz) hT,rfl,rfl,_,rfl⟩
  refine ⟨.ref s.heap.objs.size,upd H s.heap.objs.size (.tup [x,y]),tZ (s:=s) (h':=h'') (tk:=tk) (ch:=[z,TI,TO,i1,i2]) I hf (fun b o hb e=>?_) (Nat.le_refl _) ⟨by show 2<=sizeLine;decide,[x1,y1],.cons ru (.cons ru' .nil),hTT⟩,rfl,
   ⟨s.heap.objs.size,x,y,fun zs hz=>by rw [<- Tv I hqx hz];exact hx,fun zs hz=>by rw [<- Tv I hqy hz];exact hy,I.hok.fresh (Nat.le_refl _),rfl,rfl⟩,⟨hz'',?_,?_,?_,?_⟩,fun b hb=>?_⟩
  ·have hb':¬ (b=z\/b=TI\/b=TO\/b=i1\/b=i2):=by simpa using hb
   simp only [not_or] at hb';exact hs''.extBut _ _ hb'.1 (hk b o hb'.1 hb'.2.2.1 hb'.2.2.2.1 hb'.2.2.2.2 e)
  ·exact hs''.extBut _ _ Z.TIz (hk _ _ Z.TIz Z.TITO Z.TIi1 Z.TIi2 hTI)
  ·exact ⟨_,_,hs''.extBut _ _ Z.TOz hTO'⟩
  ·exact s1.1.at fun o e=>hs''.extBut _ _ Z.i1z e
  ·exact s2.1.at fun o e=>hs''.extBut _ _ Z.i2z e
  ·rw [bK (fun e=>?_)]
   ·exact (hf b hb).1
   ·have:b=z\/b=TI\/b=TO\/b=i1\/b=i2:=by simpa using hb
    obtain ⟨o1,e1,_⟩:=h1.obj;obtain ⟨o2,e2,_⟩:=h2.obj
    rcases this with rfl | rfl | rfl | rfl | rfl
    ·exact lt hz e.symm
    ·exact lt hTI e.symm
    ·exact lt hTO e.symm
    ·exact lt e1 e.symm
    ·exact lt e2 e.symm
 done:=by
  intro X hP hw hK hc i pins s σ H E I hf st hg;subst hP hw hK;obtain ⟨hz,hTI,⟨u,v,hTO⟩,h1,h2⟩:=st;obtain ⟨xs,ys,hqx,hqy,hi⟩:=hg;obtain ⟨its,rv,p,_⟩:=AM I hqx;obtain ⟨its',rv',p',_⟩:=AM I hqy;have Z:=OI hz q hTI hTO h1 h2 p p';have n1:a≠i1:=p.ne h1;have n2:c≠i2:=p'.ne h2;have hd:X.A.in1.handled=none:=I.ok.hd hc;have hi':i=min its.toArray.size its'.toArray.size:=by rw [List.size_toArray,List.size_toArray,<- rv.length,<- rv'.length];exact hi
  refine EM Z (oE f hd i1 a n1 its.toArray) (oE g hd i2 c n2 its'.toArray) hz hTI hTO ⟨h1,p⟩ ⟨h2,p'⟩ (by omega) hi' fun h' tk hk=>⟨rfl,?_⟩
  have kk:∀ b o,b ∉ [z,TI,TO,i1,i2]->s.heap.get? b=some o->h'.get? b=some o:=fun b o hb e=>by
   have hb':¬ (b=z\/b=TI\/b=TO\/b=i1\/b=i2):=by simpa using hb
   simp only [not_or] at hb';exact hk b o hb'.1 hb'.2.2.1 hb'.2.2.2.1 hb'.2.2.2.2 e
  have:=I.call' (ch:=[z,TI,TO,i1,i2]) (H':=H) (s':={ s with heap:=h',toks:=tk }) rfl ⟨fun b u q n hb hx=>kk b u hx q,fun b u q n hb hx=>⟨u.slots,kk b u hx q⟩,fun b u q n hx=>n,fun b u q hx=>⟨u,kk b u hx q⟩,fun b xs q=>q,fun b u xs q=>q,fun b ps q=>⟨#[],by rw [q];simp⟩⟩
   (fun a u e'=>?_) I.bare fun b hb=>⟨(hf b hb).2.2.2.1,(hf b hb).2.1,(hf b hb).2.2.2.2.1,(hf b hb).2.2.2.2.2⟩
  ·exact this
  ·refine (I.hok a u e').stay (fun b z hb q=>kk b z (fun hc=>?_) q) (fun _ q=>q) fun _ _ q=>q
   have hnone:=(hf b hc).1
   rcases hb with rfl | hb
   ·rw [hnone] at e';cases e'
   ·rw [hnone] at hb;cases hb
 self:=fun _ _ _ _ _ st h=>wpAny_pyIter_zip st.1 h
abbrev Of (f:Bool) (h:Heap) (a:Addr):Heap:=h.push { cls:=.type (vZ f),data:=.fields #[.ref a,.int 0 0] }
abbrev OK (f g:Bool) (h:Heap) (a c:Addr):Heap:=(Of f h a).push { cls:=.type (vZ g),data:=.fields #[.ref c,.int 0 0] }
abbrev OF (f g:Bool) (h:Heap) (a c:Addr):Heap:=(OK f g h a c).push { cls:=.type "tuple",data:=.seq #[.ref h.objs.size,.ref (Of f h a).objs.size] }
abbrev Oe (f g:Bool) (h:Heap) (a c:Addr):Heap:=(OF f g h a c).push { cls:=.type "tuple",data:=.seq #[.none,.none] }
abbrev GC (f g:Bool) (h:Heap) (a c:Addr):Heap:=(Oe f g h a c).push { cls:=.type "zip",data:=.fields #[.none,.bool false,.bool false,.ref (OK f g h a c).objs.size,.ref (OF f g h a c).objs.size] }
theorem lQ.push {f:Bool} {h:Heap} {a:Addr} {xs:Array Value} (p:lQ f h a xs) (o:Obj):lQ f (h.push o) a xs:=by
 obtain ⟨o',n,e,c,d⟩:=p.obj;cases f <;> exact ⟨o',Heap.get?_push_of_some _ e,c,n,d⟩
theorem Lk {items:Array Value} (hl:lQ f s.heap l items)
  (hQ:Q (.ref s.heap.objs.size) { s with heap:=s.heap.push { cls:=.type (vZ f),data:=.fields #[.ref l,.int 0 0] } }):wpAny (model prog w) A (pyIter (.ref l)) Q E s:=by
 cases f
 ·exact wpAny_pyIter_tuple hl hQ
 ·exact wpAny_pyIter_list hl hQ
theorem Jb (f g:Bool) (a c:Addr) (xs ys:Array Value) :
  Meets (Builtin.«zip.__new__» ⟨[.type "zip",.ref a,.ref c],[]⟩) (fun _ R s=>lQ f s.heap a xs/\lQ g s.heap c ys /\
   R (.ok (.ret (.ref (Oe f g s.heap a c).objs.size))) { s with heap:=GC f g s.heap a c }) :=
 .of_wp fun prog w A R s h=>by
  obtain ⟨hp,g',d,tk,os⟩:=s;obtain ⟨h1,h2,h⟩:=h;have hsub:=sub_zip;have hL1:lQ f (Shared.heap ⟨hp,g',d,tk,os⟩) a xs:=h1;have hL2:lQ g (Shared.heap ⟨hp.push { cls:=.type (vZ f),data:=.fields #[.ref a,.int 0 0] },g',d,tk,os⟩) c ys:=h2.push _
  wp_walk using Lk hL1,Lk hL2
  exact ⟨_,rfl,h⟩
theorem JL (h1:lQ f s.heap a xs) (h2:lQ g s.heap c ys)
  (h:∀ h',IsZip h' (s.heap.objs.size + 4) (s.heap.objs.size + 2) (s.heap.objs.size + 3) .none->IsPair h' (s.heap.objs.size + 2) (.ref s.heap.objs.size) (.ref (s.heap.objs.size + 1)) ->
   IsPair h' (s.heap.objs.size + 3) .none .none->m8 f h' s.heap.objs.size a 0->m8 g h' (s.heap.objs.size + 1) c 0 ->
   (∀ b o,s.heap.get? b=some o->h'.get? b=some o)->Q (.ref (s.heap.objs.size + 4)) { s with heap:=h' }) :
  wpAny (model prog w) A (call (.type "zip") [.ref a,.ref c]) Q E s:=by
 refine callType_new PySem.F.called_zip (by decide) (PySem.F.typeCall_zip_2 _ _) (PySem.F.newCall_zip_2 _ _) (fun obj=>PySem.F.args_object_init_3 obj _ _) PySem.F.entry_zip_new
  (Jb f g a c xs ys) ⟨h1,h2,?_⟩
 have z1:(Of f s.heap a).objs.size=s.heap.objs.size + 1:=Heap.size_push ..;have z2:(OK f g s.heap a c).objs.size=s.heap.objs.size + 2:=by rw [Heap.size_push,z1]
 have z3:(OF f g s.heap a c).objs.size=s.heap.objs.size + 3:=by rw [Heap.size_push,z2]
 have z4:(Oe f g s.heap a c).objs.size=s.heap.objs.size + 4:=by rw [Heap.size_push,z3]
 have g5:(GC f g s.heap a c).get? (Oe f g s.heap a c).objs.size=some _:=Heap.get?_push_size _ rfl;have g4:(GC f g s.heap a c).get? (OF f g s.heap a c).objs.size=some _:=Heap.get?_push_of_some _ (Heap.get?_push_size _ rfl);have g3:(GC f g s.heap a c).get? (OK f g s.heap a c).objs.size=some _:=Heap.get?_push_of_some _ (Heap.get?_push_of_some _ (Heap.get?_push_size _ rfl));have g2:(GC f g s.heap a c).get? (Of f s.heap a).objs.size=some _:=Heap.get?_push_of_some _ (Heap.get?_push_of_some _ (Heap.get?_push_of_some _ (Heap.get?_push_size _ rfl)));have g1:(GC f g s.heap a c).get? s.heap.objs.size=some _:=Heap.get?_push_of_some _ (Heap.get?_push_of_some _ (Heap.get?_push_of_some _ (Heap.get?_push_of_some _ (Heap.get?_push_size _ rfl))));show _/\_;rw [z2,z3,z4] at g5;rw [z1,z2] at g3;rw [z3] at g4;rw [z1] at g2;rw [z4]
 exact ⟨⟨_,g5,rfl⟩,h _ g5 g3 g4 (.of g1 rfl rfl) (.of g2 rfl rfl) fun b o x =>
  Heap.get?_push_of_some _ (Heap.get?_push_of_some _ (Heap.get?_push_of_some _ (Heap.get?_push_of_some _ (Heap.get?_push_of_some _ x))))⟩
def Sw (f g:Bool) (K:PySem.W.Frag) (ta:TA):TI:=fun σ H R=>ta σ H fun vs H1=>∃ a c,vs=[.ref a,.ref c]/\(∃ xs,pX f K H1 a xs)/\(∃ ys,pX g K H1 c ys)/\R (Sk f g K a c) H1
variable {b:Expr}
theorem Sf {a:Expr} {ta:TA} {pos:Pos} (hg:Gl X "zip") (hm:X.mg "zip"=none) (ha:PA X [a,b] ta) (hs:starEach [a,b] X.env=[(false,eval a X.env),(false,eval b X.env)]) (hs2:starEach [b] X.env=[(false,eval b X.env)]) :
  PI X (.Tuple elts kk tpos) (.Call (.Name "zip" p) [a,b] [] pos) (Sw f g X.K ta):=by
 intro pins s σ H R I h;refine Call_ (tH I hg hm boot_zip (PyProof.Rows.callWith_type1 (bD (ha pos pins s σ H _ I h) fun us s1 ⟨vs,H1,I1,r1,q1⟩=>?_) (by rw [hs,hs2]) (by rw [hs2];rfl)));obtain ⟨a,c,e,⟨xs,hq⟩,⟨ys,hq'⟩,q⟩:=q1;subst e
 cases r1 with
 | cons r rr =>
  cases rr with
  | cons r' rr =>
   cases rr;cases r;cases r';obtain ⟨its,rv,p,hz⟩:=AM I1 hq;obtain ⟨its',rv',p',hz'⟩:=AM I1 hq';have la:a < s1.heap.objs.size:=by obtain ⟨_,_,e,_⟩:=p.obj;exact Heap.lt_size e
   have lc:c < s1.heap.objs.size:=by obtain ⟨_,_,e,_⟩:=p'.obj;exact Heap.lt_size e
   refine JL p p' fun h' hz hTI hTO h1 h2 hk=>?_;refine wpAny_pyIter_zip (s:={ s1 with heap:=h' }) hz ?_;have I2:L2.Inv X pins σ H1 { s1 with heap:=h',toks:=s1.toks }:=I1.kept hk;refine ⟨_,_,_,_,H1,rfl,I2,Mx f g a c (s1.heap.objs.size + 4) (s1.heap.objs.size + 2) (s1.heap.objs.size + 3) s1.heap.objs.size (s1.heap.objs.size + 1) ⟨Nat.ne_of_lt (Nat.lt_succ_self _),Nat.ne_of_lt (Nat.lt_succ_self _),Nat.ne_of_gt (Nat.lt_of_lt_of_le la (Nat.le_add_right _ _)),Nat.ne_of_gt (Nat.lt_of_lt_of_le lc (Nat.le_add_right _ _))⟩,⟨hz,hTI,⟨_,_,hTO⟩,h1,h2⟩,fun b hb=>?_,q⟩
   have le:s1.heap.objs.size<=b:=by
    have:b=s1.heap.objs.size + 4\/b=s1.heap.objs.size + 2\/b=s1.heap.objs.size + 3\/b=s1.heap.objs.size\/b=s1.heap.objs.size + 1:=by simpa using hb
    rcases this with e | e | e | e | e <;> rw [e]
    ·exact Nat.le_add_right _ _
    ·exact Nat.le_add_right _ _
    ·exact Nat.le_add_right _ _
    ·exact Nat.le_refl _
    ·exact Nat.le_add_right _ _
   exact I1.fpOk le (I1.hok.fresh le)
def dE:List U->List U->List U
 | u :: us,w :: ws=>.tup [u,w] :: dE us ws
 | _,_=>[]
theorem Bf:∀ us ws:List U,(dE us ws).length=min us.length ws.length
 | [],ws=>by simp [dE]
 | _ :: _,[]=>by simp [dE]
 | u :: us,w :: ws=>by simp only [dE,List.length_cons,Bf us ws];omega
theorem Ao:∀ {us ws:List U} {i:Nat} {x:U},(dE us ws)[i]?=some x->∃ u w,us[i]?=some u/\ws[i]?=some w/\x=.tup [u,w]
 | [],ws,i,x,h=>by simp [dE] at h
 | _ :: _,[],i,x,h=>by simp [dE] at h
 | u :: us,w :: ws,0,x,h=>by simp [dE] at h;exact ⟨u,w,rfl,rfl,h.symm⟩
 | u :: us,w :: ws,i + 1,x,h=>by
  simp only [dE,List.getElem?_cons_succ] at h ⊢;exact Ao h
theorem NC {ws:List U} {xs:List V} (m:Lq f K H M a vs) (m':Lq g K H M c xs) (r:aI K H M us vs) (r':aI K H M ws xs):Walk K (Sk f g K a c) ⟨none,dE us ws⟩ H M:=by
 refine ⟨fun H1 M1 s rm _ i u e=>?_,fun H1 M1 s rm _=>⟨vs,xs,m _ _ s,m' _ _ s,by show (dE us ws).length=_;rw [Bf,r.length,r'.length]⟩⟩;obtain ⟨u,w,e1,e1',rfl⟩:=Ao e;obtain ⟨v,e2,ru⟩:=r.get e1;obtain ⟨x,e2',ru'⟩:=r'.get e1';refine ⟨⟨vs,xs,v,x,m _ _ s,m' _ _ s,e2,e2'⟩,fun y H2 y'=>?_⟩;obtain ⟨p,v',x',y1,y2,hp,rfl,rfl⟩:=y'
 have:=y1 vs (m _ _ s)
 rw [e2] at this;cases this
 have:=y2 xs (m' _ _ s)
 rw [e2'] at this;cases this;have st:=aQ.laid (o:=.tup [v,x]) rm hp
 have rr:aI K H1 M1 [u,w] [v,x]:=by
  simp only [aI];exact ⟨_,_,rfl,ru.stp s,_,_,rfl,ru'.stp s,rfl⟩
 exact ⟨st,rm.laid hp,zY (rm.no hp) bY (rr.stp st)⟩
def Ca (ta:UA):UI:=fun τ M R=>ta τ M fun us M1=>match us with
 | [.tup us,.tup ws]=>R ⟨none,dE us ws⟩ M1
 | _=>False
def fC (ta:UA):UI:=fun τ M R=>ta τ M fun us M1=>match us with
 | [.tup us,.lst ws]=>R ⟨none,dE us ws⟩ M1
 | _=>False
def AN (ta:UA):UI:=fun τ M R=>ta τ M fun us M1=>match us with
 | [.lst us,.lst ws]=>R ⟨none,dE us ws⟩ M1
 | _=>False
theorem JU {ta:TA} (h:lA K ta ta'):sV K (Sw true true K ta) (AN ta'):=fun σ τ H M R' rs rm q R c=>h σ τ H M _ rs rm q _ fun us vs M1 H1 s1 rm1 ru h1=>by
 split at h1
 ·obtain ⟨v,vs',rfl,a,b⟩:=ru.inv_cons
  obtain ⟨v2,rfl,a2⟩:=b.one;simp only [aM] at a a2;obtain ⟨a,vs,rfl,m,r⟩:=a;obtain ⟨a',vs',rfl,m',r'⟩:=a2;exact ⟨a,a',rfl,⟨vs,J5 m _ _ (aQ.refl _ _)⟩,⟨vs',J5 m' _ _ (aQ.refl _ _)⟩,c _ _ M1 H1 s1 rm1 (NC (J5 m) (J5 m') r r') h1⟩
 ·exact h1.elim
theorem EV {D:Dat} {a:Expr} {pos:Pos} {ta:UA} (hm:D.mg "zip"=none) (ha:mP D [a,b] ta) (hg:D.sc.names.lookup ("zip":Str)=some .globalImplicit:=by rfl) (hs:∀ env,starEach [a,b] env=[(false,eval a env),(false,eval b env)]:=by intro _;rfl) (hs2:∀ env,starEach [b] env=[(false,eval b env)]:=by intro _;rfl):zO D (.Tuple elts kk tpos) (.Call (.Name "zip" p) [a,b] [] pos) (AN ta):=by
 obtain ⟨_,q,s⟩:=ha;exact ⟨_,fun X h=>h.K ▸ Sf (by show X.env.scope.names.lookup _=_;rw [h.sc];exact hg) (by rw [h.mg];exact hm) (q X h) (hs _) (hs2 _),JU s⟩
theorem C4 (l:Addr) (items:Array Value) (n:Nat) (b:Addr) (items2:Array Value) (n2:Nat) (dd:Option Addr) (sl:Array (Option Value)) (hc0:¬(!items.isEmpty && Builtin.List.listTooLong (items.size + items2.size))=true) (hc1:items.size<=sizeLine) (hs2:items.size + items2.size<=sizeLine + 1) :
  Meets (Builtin.«list.extend» ⟨[.ref l,.ref b],[]⟩) (fun _ R s=>s.heap.get? l=some { cls:=.type "list",dict:=none,data:=.seq items n,slots:=#[] }/\s.heap.get? b=some { cls:=.type "list",dict:=dd,data:=.seq items2 n2,slots:=sl }/\R (.ok (.ret Value.none)) { s with heap:=s.heap.update l (Obj.mapSeq fun x=>x++items2),toks:=s.toks }) :=
 .of_wp fun prog w A R s h=>by
  obtain ⟨hp,g,d,tk,os⟩:=s;obtain ⟨hl,hb,h⟩:=h;have f1:=PySem.AutoSeq1.idx_int;have f2:=PySem.AutoSeq1.sub_tuple_tuple;have f3:=PySem.AutoSeq1.sub_list_list;have f4:=PySem.AutoSeq1.sub_tuple_list;have f5:=PySem.AutoSeq1.sub_list_tuple;have hz':(items++items2).size<=sizeLine + 1:=by rw [Array.size_append];exact hs2
  wp_walk using (wpAny_updateSeq hl rfl (hz:=hc1) (_hz':=hz')),wpAny_loadPart' hl,wpAny_loadPart' hb
  exact ⟨_,rfl,h⟩
theorem IK:JF X "list.extend" (Er X.K):=by
 intro pins s σ H x vs v us Q I rx rv h;obtain ⟨l,b,xs,zs,rfl,rfl,hH,hB,hz,q⟩:=h;cases rx;obtain ⟨u,rfl,ru⟩:=rv.one;cases ru;obtain ⟨z,its,n,r,hl,e⟩:=I.lstM hH;obtain ⟨its2,r2,⟨⟨oc,od,odt,osl⟩,n2,e2,hc,hd,hdt⟩,hl2⟩:=I.list hB
 have hc':oc=.type "list":=hc
 have hdt':odt=.seq its2.toArray n2:=hdt;subst hc' hdt';have l2:=r2.length;have hsz:its.toArray.size + its2.toArray.size<=sizeLine:=by rw [List.size_toArray,List.size_toArray];omega
 have hlong:¬ (!its.toArray.isEmpty && Builtin.List.listTooLong (its.toArray.size + its2.toArray.size))=true:=by
  rw [EG hsz,Bool.and_false];exact Bool.false_ne_true
 refine call_meets PySem.F.slot_list_extend ⟨_,e,rfl⟩ PySem.F.entry_list_extend (PySem.F.args_list_extend_2 _ _)
  (C4 l its.toArray n b its2.toArray n2 od osl hlong (by rw [List.size_toArray];omega) (by omega)) ⟨e,e2,?_⟩
 refine ⟨.non,_,I.lset (its':=its++its2) hH e (by simp) (r.append r2) ?_,rfl,q⟩;rw [List.length_append];omega
variable {D:Dat} {o e:Expr} {ta:UE} {tas:UA} {pos:Pos}
theorem xV {apos:Pos} (ho:aT D o ta) (ha:mP D [e] tas) (hbase:∀ env,attributeBase o "extend" env (eval o env)=eval o env:=by intro _;rfl)
  (hfew:∀ env,((backTo pos (starEach [e] env)).all (fun x=>!x.1) && (backToKw pos (keywordEach [] env)).all (fun x=>x.1.isSome) && decide ([e].length + ([]:List Keyword).length + (if ([]:List Keyword).isEmpty then 0 else 1) < 30))=true:=by intro _;rfl)
  (hline:(apos.endLine == pos.line)=true:=by rfl) (hs:∀ env,starEach [e] env=[(false,eval e env)]:=by intro _;rfl):aT D (.Call (.Attribute o "extend" apos) [e] [] pos) (zQ lJ ta tas):=by
 obtain ⟨_,p,s⟩:=ho;obtain ⟨_,q,r⟩:=ha;refine ⟨_,fun X h=>?_,EH Hz s r⟩
 have:=IG (cpos:=pos) (apos:=apos) PySem.F.plainAttrs_list PySem.F.slot_list_extend PySem.F.type_list_extend IK (p X h) (q X h) (hbase _) (hfew _) hline (hs _) (by rfl)
 rw [h.K] at this;exact this
def intsOf:List U->Option (List Int)
 | []=>some []
 | .int i :: us=>(intsOf us).map (i :: ·)
 | _ :: _=>none
theorem nJ {K:PySem.W.Frag} {H:Hp} {M:aG}:∀ {us:List U} {vs:List V} {xs:List Int},aI K H M us vs->intsOf us=some xs->vs=xs.map V.int
 | [],vs,xs,r,e=>by cases e;exact r.inv_nil
 | u :: us,vs,xs,r,e=>by
  obtain ⟨v,vs',rfl,a,b⟩:=r.inv_cons
  cases u with
  | int i =>
   simp only [intsOf] at e
   cases e2:intsOf us with
   | none=>rw [e2] at e;cases e
   | some ys=>rw [e2] at e;cases e;rw [a.int,nJ b e2];rfl
  | _=>cases e
def w5:dY:=fun x y M Q=>match x,y with
 | .int i,.int j=>Q (.bl (decide (i < j))) M
 | .tup us,.tup ws=>∃ xs ys,intsOf us=some xs/\intsOf ws=some ys/\Q (.bl (HT.lexLt xs ys)) M
 | _,_=>False
variable {D:Dat}
theorem Dy:nS D .Lt w5:=⟨⟨_,fun X h=>h.K ▸ N5.or (S6 h.room.units0),fun x y u w H M Q' rm ru rw h Q c=>by
 unfold w5 at h;split at h
 ·rename_i i j
  exact .inl (pD (f:=fun i j=>decide (i < j)) x y (.int i) (.int j) H M Q' rm ru rw h Q c)
 ·rename_i us ws
  obtain ⟨xs,ys,e1,e2,q⟩:=h;obtain ⟨a,vs,rfl,s1,r1⟩:=ru.tup;obtain ⟨a',vs',rfl,s2,r2⟩:=rw.tup;cases nJ r1 e1;cases nJ r2 e2;exact .inr ⟨a,a',xs,ys,rfl,rfl,s1,s2,c.here rm fQ q⟩
 ·exact h.elim⟩⟩
def pM:Int->List Int->Int
 | m,[]=>m
 | m,n :: ns=>pM (if n > m then n else m) ns
theorem G1:∀ (ns:List Int) (m:Int),m<=pM m ns/\∀ n∈ns,n<=pM m ns
 | [],m=>⟨Int.le_refl _,fun n h=>by cases h⟩
 | k :: ns,m=>by
  obtain ⟨h1,h2⟩:=G1 ns (if k > m then k else m);have hk:m<=(if k > m then k else m)/\k<=(if k > m then k else m):=by split <;> omega
  simp only [pM];refine ⟨by omega,fun n hn=>?_⟩
  rcases List.mem_cons.mp hn with rfl | hn
  ·omega
  ·exact h2 n hn
theorem D4:∀ (ns:List Int) (m:Int),pM m ns=m\/pM m ns∈ns
 | [],m=>.inl rfl
 | k :: ns,m=>by
  simp only [pM]
  rcases D4 ns (if k > m then k else m) with h | h
  ·by_cases hk:k > m
   ·rw [if_pos hk] at h ⊢;exact .inr (by rw [h];exact List.mem_cons_self)
   ·rw [if_neg hk] at h ⊢;exact .inl h
  ·exact .inr (List.mem_cons_of_mem _ h)
theorem OW {m M:Int} {ns:List Int} (h1:M=m\/M∈ns) (h2:m<=M) (h3:∀ n∈ns,n<=M):pM m ns=M:=by
 obtain ⟨g1,g2⟩:=G1 ns m
 rcases D4 ns m with e | e
 ·rcases h1 with rfl | h1
  ·exact e
  ·have:=g2 M h1;omega
 ·have:=h3 _ e
  rcases h1 with rfl | h1
  ·omega
  ·have:=g2 M h1;omega
section
variable {X:Cx}
theorem Kk (hc:X.calm=true):kT X (.builtin "max") (fun xs H Q=>∃ p m ns,xs=[.ref p]/\eR X.K H p ((m :: ns).map V.int)/\Q (.int (pM m ns)) H):=by
 intro pins s σ H xs us Q I r h;obtain ⟨p,m,ns,rfl,hq,q⟩:=h;obtain ⟨u,rfl,rx⟩:=vals1 r;cases rx;obtain ⟨its,r',pl,hz⟩:=I.list hq;have hi:IntsAre its (m :: ns):=intsAre_of r';obtain ⟨ys,e⟩:=hi.allInts.items
 have hns:(m :: ns)=ys.toList.map (·.1):=by
  rw [<- hi.numsOf,<- nums_intItems,<- e]
 have hsz:0 < ys.size:=by
  have h3:ns.length + 1=ys.size:=by have:=congrArg List.length hns;simpa using this
  omega
 have hl:=pl.isList;rw [e] at hl;refine max_intList (I.ok.hd hc) hl hsz fun v h' tk hv hk=>?_;obtain ⟨t,rfl⟩:=intItems_at hv;obtain ⟨h1,h2⟩:=argBest_gt (numAt ys) (ys.size - 1)
 have hM:pM m ns=numAt ys (argBest (fun i j=>decide (numAt ys i > numAt ys j)) (ys.size - 1)):=by
  have hin:numAt ys (argBest (fun i j=>decide (numAt ys i > numAt ys j)) (ys.size - 1))∈m :: ns:=by
   rw [hns,numAt_eq];exact getD_mem (by rw [List.length_map,Array.length_toList];omega)
  have hge:∀ a∈m :: ns,a<=numAt ys (argBest (fun i j=>decide (numAt ys i > numAt ys j)) (ys.size - 1)):=fun a ha=>by
   rw [hns] at ha;obtain ⟨j,hj,rfl⟩:=mem_getD ha;rw [List.length_map,Array.length_toList] at hj;rw [<- numAt_eq];exact h2 j (by omega)
  exact OW (List.mem_cons.mp hin) (hge m List.mem_cons_self) fun n hn=>hge n (List.mem_cons_of_mem _ hn)
 exact ⟨.int (pM m ns),H,I.kept hk,⟨t,by rw [hM]⟩,q⟩
def B1:List U->aG->UK->Prop:=fun us M Q=>match us with
 | [x]=>match view M x with
  | .lst ws=>∃ ns,intsOf ws=some ns/\PySem.SumFits ns/\Q (.int ns.sum) M
  | _=>False
 | _=>False
def wD:List U->aG->UK->Prop:=fun us M Q=>match us with
 | [.int i,.int j]=>Q (.int (if j > i then j else i)) M
 | [x]=>match view M x with
  | .lst ws=>∃ m ns,intsOf ws=some (m :: ns)/\Q (.int (pM m ns)) M
  | _=>False
 | _=>False
theorem QW {D:Dat}:CL D (.builtin "max") wD:=⟨⟨_,fun X h=>by
  have:=(KW (X:=X) h.calm).or (Kk h.calm);rw [h.K] at this;exact this,fun xs us H M Q' rm rus h Q c=>by
 unfold wD at h;split at h
 ·rename_i i j
  obtain ⟨v,z,rfl,a1,a2⟩:=rus.two;cases a1.int;cases a2.int;exact .inl ⟨i,j,rfl,c.here rm c8 h⟩
 ·rename_i x
  obtain ⟨v,rfl,a1⟩:=rus.one;split at h
  ·rename_i ws e
   obtain ⟨m,ns,e2,q⟩:=h;obtain ⟨b,zvs,rfl,s2,r2⟩:=fG rm a1 e;rw [nJ r2 e2] at s2;exact .inr ⟨b,m,ns,rfl,s2,c.here rm c8 q⟩
  ·exact h.elim
 ·exact h.elim⟩⟩
end
section
variable {D:Dat} {a b c e o i:Expr} {ta tb tc te to ti:UE} {pos p:Pos} {es:List Expr} {tas:UA} {x:Str}
def oV (te to ti:UE):US:=fun D τ M=>te τ M fun v M1=>to τ M1 fun x M2=>ti τ M2 fun y M3=>match x,y with
 | .ref a,.int k=>match M3 a with
  | some (.lst us)=>∃ j,rH us.length k=some j/\D.nx τ (mup M3 a (.lst (us.set j v)))
  | _=>False
 | _,_=>False
theorem tM {tpos:Pos} (he:aT D e te) (ho:aT D o to) (hi:aT D i ti) (hs:∀ env,swapsWithSole [.Subscript o i tpos] e pos.line env=pure false:=by intro _;rfl) (hw:∀ env,swappedStores [.Subscript o i tpos] e env=pure none:=by intro _;rfl)
  (h1:∀ env,(assignEach [.Subscript o i tpos] env).map (·.2)=[assign (.Subscript o i tpos) env]:=by intro _;rfl)
  (ha:∀ env v,assign (.Subscript o i tpos) env v=(do
   let ov <- holding [v] (eval o env)
   let iv <- holding [v,ov] (eval i env)
   standAt tpos
   holding [v,ov,iv] (setItem ov iv v)
   release [v,ov,iv] []):=by intro _ _;rfl):pZ D (.Assign [.Subscript o i tpos] e pos) (oV te to ti):=by
 obtain ⟨_,p1,s1⟩:=he;obtain ⟨_,p2,s2⟩:=ho;obtain ⟨_,p3,s3⟩:=hi;refine ⟨_,fun X h=>Th (p1 X h) (R1 (p2 X h) (p3 X h) set_list (ha _)) (hs _) (hw _) (h1 _),fun σ τ H M D' rs rm h EE d=>?_⟩;refine s1 σ τ H M _ rs rm h _ fun v vv M1 H1 st1 rm1 rv h1=>?_;refine s2 σ τ H1 M1 _ (rs.stp st1) rm1 h1 _ fun x vx M2 H2 cO rm2 rx h2=>?_;refine s3 σ τ H2 M2 _ ((rs.stp st1).stp cO) rm2 h2 _ fun y vy M3 H3 st3 rm3 ry h3=>?_;split at h3
 ·rename_i a k
  split at h3
  ·rename_i us e
   obtain ⟨j,hj,q⟩:=h3;cases (rx.stp st3).ref;cases ry.int;obtain ⟨vs,hv,rus⟩:=rm3 a _ e;have rv3:=(rv.stp cO).stp st3;have st4:aQ H3 M3 (upd H3 a (.lst (vs.set j vv))) (mup M3 a (.lst (us.set j v))):=aQ.write e;have rnew:RelM D.K (upd H3 a (.lst (vs.set j vv))) (mup M3 a (.lst (us.set j v))):=rm3.put st4 ⟨_,bY,(aI.set rv3 j rus).stp st4⟩;refine ⟨a,vs,k,j,rfl,rfl,hv,by rw [<- rus.length];exact hj,?_⟩;exact d.nx _ _ _ _ (((st1.trans cO).trans st3).trans st4) rnew ((((rs.stp st1).stp cO).stp st3).stp st4) q
  ·exact h3.elim
 ·exact h3.elim
def tU:U->List U->aG->UK->Prop:=fun x ws M Q=>match x,ws with
 | .ref a,[.int i]=>match M a with
  | some (.lst us)=>-(2 ^ 63)<=i/\i < 2 ^ 63/\∃ k y,seqIndex? i us.length=some k/\us[k]?=some y/\Q y (mup M a (.lst (us.eraseIdx k)))
  | _=>False
 | _,_=>False
def BS:List U->aG->UK->Prop:=fun us M Q=>match us with
 | [.int i]=>Q (.int i) M
 | [.bl k]=>Q (.int (if k then 1 else 0)) M
 | _=>False
def rR (i j:Int):Prop:=Mz i j\/(Builtin.Int.intBits i<=60000000/\Builtin.Int.intBits j<=60000000)
theorem rR.ok {i j:Int} (h:rR i j):IntMulOk i j:=by
 rcases h with h | ⟨h1,h2⟩
 ·exact h.ok
 ·exact IntMulOk.of_le h1 h2 (by decide)
variable {X:Cx}
theorem PB:dI X (binaryOp .Mult) (rI rR fun i j=>.int (i * j)):=Od fun _ _ _ _ _ _ _ hc q=>mul_int q hc.ok
def kN (z:Str) (n:Int):Str:=if n < 1 then Str.empty else if (n == 1 || z.length == 0)=true then z else ⟨(List.replicate n.toNat z.cps).foldl (·++·) #[]⟩
theorem QS:dI X (binaryOp .Mult) (fun x y H Q=>∃ z n,x=.str z/\y=.int n/\-(2 ^ 63)<=n/\n < 2 ^ 20/\z.length<=2 ^ 20/\z.length * n.toNat<=100000/\Q (.str (kN z n)) H):=by
 intro pins s σ H x y v u Q I rx ry h;obtain ⟨z,n,rfl,rfl,h1,h2,h3,h4,q⟩:=h;obtain ⟨t,rfl⟩:=rx;obtain ⟨t',rfl⟩:=ry
 have e1:(decide (n < -(2 ^ 63:Int)) || decide (n ≥ 2 ^ 63))=false:=by
  rw [decide_eq_false (by omega),decide_eq_false (by omega)];rfl
 refine PySem.P.mul_str e1 (fun g1 g2=>?_) (fun g1 g2=>?_) ?_
 ·intro hh
  have hn:(1:Int)<=n:=by omega
  have e3:(z.length:Int) * n=((z.length * n.toNat:Nat):Int):=by
   rw [Int.natCast_mul,Int.toNat_of_nonneg (by omega)]
  have:=Int.le_ediv_of_mul_le (show (0:Int) < n by omega) (show (z.length:Int) * n<=2 ^ 63 - 1 by rw [e3];omega)
  omega
 ·unfold Builtin.Str.tooLong sizeLine
  exact decide_eq_false (by omega)
 ·have hq:∀ (t2:Tok) k,EP X pins σ Q (.str (kN z n) t2) { s with toks:=k }:=fun t2 k=>⟨.str (kN z n),H,I.tok k,⟨t2,rfl⟩,q⟩
  unfold kN at hq
  by_cases g1:n < 1
  ·rw [if_pos g1]
   simp only [if_pos g1] at hq;exact ⟨by decide,hq _ _⟩
  ·rw [if_neg g1]
   simp only [if_neg g1] at hq
   by_cases g2:(n == 1 || z.length == 0)=true
   ·rw [if_pos g2]
    simp only [if_pos g2] at hq;exact hq t s.toks
   ·rw [if_neg g2]
    simp only [if_neg g2] at hq;refine ⟨?_,hq _ _⟩
    have hsz:∀ (k:Nat) (acc:Array Nat),((List.replicate k z.cps).foldl (·++·) acc).size=acc.size + k * z.cps.size:=by
     intro k
     induction k with
     | zero=>intro acc;simp
     | succ k ih=>intro acc;rw [List.replicate_succ,List.foldl_cons,ih,Array.size_append,Nat.succ_mul];omega
    show ((List.replicate n.toNat z.cps).foldl (·++·) #[]).size<=sizeLine;rw [hsz];have h5:n.toNat * z.cps.size<=100000:=by rw [Nat.mul_comm];exact h4
    have:(100000:Nat)<=sizeLine:=by decide
    simp only [Array.size_empty,Nat.zero_add];omega
def u3 (o:Bool):dY:=fun x y M Q=>match x,y with
 | .int i,.int j=>rR i j/\Q (.int (i * j)) M
 | .str z,.int n=>-(2 ^ 63)<=n/\n < 2 ^ 20/\z.length<=2 ^ 20/\z.length * n.toNat<=100000/\Q (.str (kN z n)) M
 | .ref a,.int k=>match M a with
  | some (.lst us)=>-(2 ^ 63)<=k/\k < 2 ^ 63/\us.length * k.toNat<=sizeLine/\i7 o (List.replicate k.toNat us).flatten M Q
  | _=>False
 | _,_=>False
theorem aI.rep {K:PySem.W.Frag} {H:Hp} {M:aG} {us:List U} {vs:List V} (r:aI K H M us vs):∀ k:Nat,aI K H M (List.replicate k us).flatten (List.replicate k vs).flatten
 | 0=>by simp only [List.replicate_zero,List.flatten_nil];exact .nil
 | k + 1=>by simp only [List.replicate_succ,List.flatten_cons];exact r.append (aI.rep r k)
theorem Ql {K:PySem.W.Frag} {o:Bool}:dG K (fun x y H Q=>rI rR (fun i j=>.int (i * j)) x y H Q\/((∃ z n,x=.str z/\y=.int n/\-(2 ^ 63)<=n/\n < 2 ^ 20/\z.length<=2 ^ 20/\z.length * n.toNat<=100000/\Q (.str (kN z n)) H)\/RC x y H Q)) (u3 o):=fun x y u w H M Q' rm ru rw h Q c=>by
 unfold u3 at h;split at h
 ·rename_i i j
  exact .inl (sI (C:=rR) (f:=fun i j=>i * j) x y (.int i) (.int j) H M Q' rm ru rw h Q c)
 ·rename_i z n
  cases ru.str;cases rw.int;exact .inr (.inl ⟨z,n,rfl,rfl,h.1,h.2.1,h.2.2.1,h.2.2.2.1,c.here rm mM h.2.2.2.2⟩)
 ·rename_i a k
  split at h
  ·rename_i us e
   obtain ⟨vs,hv,r⟩:=rm a _ e;cases ru.ref;cases rw.int;exact .inr (.inr ⟨a,k,vs,rfl,rfl,hv,h.1,h.2.1,by rw [<- r.length];exact h.2.2.1,fun p hp=>c.lst rm (r.rep k.toNat) hp h.2.2.2⟩)
  ·exact h.elim
 ·exact h.elim
theorem gX (own:Bool:=false) (ha:aT D a ta) (hb:aT D b tb):aT D (.BinOp a .Mult b pos) (l9 (u3 own) ta tb):=yO (fun _ _=>PB.or (QS.or Si)) Ql ha hb
def Oa (_ j:Int):Prop:=0 < j/\j < 2 ^ 64
theorem LC:dI X (binaryOp .FloorDiv) (rI Oa fun i j=>.int (i / j)):=Od fun i j _ _ _ _ _ hc q=>by
 have h1:(0:Int) < j:=hc.1
 have h2:j.natAbs.log2 < 9000:=by
  have h3:j.natAbs < 2 ^ 64:=by have:=hc.2;omega
  by_cases h:j.natAbs=0
  ·rw [h];decide
  ·have:=(Nat.log2_lt h).mpr h3
   omega
 exact floordiv_int (by omega) (by rw [Int.fdiv_eq_ediv_of_nonneg i (by omega)];exact q) (.inl (PyProof.noPylong_of_log2 h2))
theorem Gs (ha:aT D a ta) (hb:aT D b tb):aT D (.BinOp a .FloorDiv b pos) (l9 (uI Oa fun i j=>.int (i / j)) ta tb):=yO (fun _ _=>LC) sI ha hb
end
end U2
namespace HT
open PySem PySem.Spec PyProof.Rows L2
variable {prog:Program} {w:World} {A:Around} {E:Value->Shared->Prop} {s:Shared}
theorem v7 {t sl:Addr} {items:Array Value} {vl vu:Value} {lo hi:Option Int} {Q:Value->Shared->Prop} (ht:IsTup s.heap t items) (hs:s.heap.IsSliceOf sl vl vu .none) (pl:IsPart vl lo) (pu:IsPart vu hi)
  (hw:bM items.size 0 lo=0/\bM items.size items.size hi=items.size)
  (h:Q (.ref t) s):wpAny (model prog w) A (getItem (.ref t) (.ref sl)) Q E s:=by
 obtain ⟨os,hos,hcs,hds⟩:=id hs
 have hTs:s.TypeIs (.ref sl) "slice":=⟨os,hos,hcs⟩
 unfold getItem
 try with_reducible refine wpAny_holding ?_
 first | refine wpAny_bind (wpAny_pure ?_) | skip
 refine wpAny_bind (wpAny_sequenceKey ht.typeIs (by decide) ?_)
 refine wpAny_bind (wpAny_callSpecial?_slot (name:=Str.ofString "__getitem__") ht.typeIs PyProof.Rows.slot_tuple_getitem
  (wpAny_call_entry PyProof.Rows.slot_tuple_getitem ht.typeIs entry_tuple_getitem ?_ (args_tuple_getitem _ _)))
 show wpAny _ _ (Builtin.Tuple.tupleItemsOf (.ref t) >>= _) _ _ s;refine wpAny_bind (tupleItemsOf_ ht ?_);refine wpAny_bind (wpAny_typeOf hTs ?_);rw [if_pos (by decide)];refine wpAny_bind (rG hs pl pu ?_)
 have hyes:((((bM items.size 0 lo:Nat):Int) == 0 && (1:Int) == 1 && (bM items.size items.size hi - bM items.size 0 lo) == items.size)=true):=by
  rw [hw.1,hw.2];simp
 show wpAny _ _ (if (((bM items.size 0 lo:Nat):Int) == 0 && (1:Int) == 1 && (bM items.size items.size hi - bM items.size 0 lo) == items.size)=true then _ else _) _ _ s;rw [if_pos hyes];unfold Builtin.Tuple.tupleIsExact;refine wpAny_bind (wpAny_bind (wpAny_typeOf ht.typeIs (wpAny_pure ?_)));rw [if_pos (by decide)];refine wpAny_bind (wpAny_rule ?_);exact wpAny_pure ⟨_,rfl,wpAny_pure h⟩
end HT
namespace U2
open PySem PySem.Spec PyProof.Rows L2
def Q5 (K:PySem.W.Frag):V->Option Int->Option Int->Hp->VK->Prop:=fun x lo hi H Q=>∃ a xs,x=.ref a/\fR K H a xs/\(HT.bM xs.length 0 lo=0/\HT.bM xs.length xs.length hi=xs.length)/\Q (.ref a) H
theorem Pq {X:Cx}:zK X (Q5 X.K):=by
 intro pins s σ H x v vl vu lo hi sl Q I rx hs pl pu h;obtain ⟨a,xs,rfl,hx,hw,q⟩:=h;cases rx;obtain ⟨its,r,ht,hz⟩:=I.tuple hx;have hlen:its.toArray.size=xs.length:=by rw [List.size_toArray];exact r.length.symm
 refine ⟨"tuple",_,PyProof.Rows.slot_tuple_getitem.lookup,ht.typeIs,?_⟩
 refine HT.v7 ht hs pl pu (by rw [hlen];exact hw) ⟨.ref a,H,I,rfl,q⟩
def wO (o:Bool) (te:UE) (tl th:UO):UE:=fun τ M Q=>te τ M fun x M1=>tl τ M1 fun l M2=>th τ M2 fun h M3=>match view M3 x with
 | .lst us=>i7 o (jT us l h) M3 Q
 | .tup us=>Q (.tup (jT us l h)) M3
 | .str z=>z.length<=sizeLine/\Q (.str (Txt.slice z l h)) M3
 | _=>False
theorem PX {K:PySem.W.Frag} {o:Bool} {te:TE} {te':UE} {tl th:TO} {tl' th':UO} (h0:bR K te te') (h1:DN K tl tl') (h2:DN K th th'):bR K (UX (fun x lo hi H Q=>SW K x lo hi H Q\/Q5 K x lo hi H Q) te tl th) (wO o te' tl' th'):=fun σ τ H M Q' rs rm q Q c =>
 h0 σ τ H M _ rs rm q _ fun u v M1 H1 s1 rm1 ru q1=>h1 σ τ H1 M1 _ (rs.stp s1) rm1 q1 _ fun lo M2 H2 s2 rm2 q2=>h2 σ τ H2 M2 _ ((rs.stp s1).stp s2) rm2 q2 _ fun hi M3 H3 s3 rm3 q3=>by
  have c3:=c9.stp c ((s1.trans s2).trans s3);have ru3:=ru.stp (s2.trans s3);split at q3
  ·rename_i us e
   obtain ⟨a,xs,rfl,r1,r2⟩:=fG rm3 ru3 e;exact .inl (.inl ⟨a,xs,rfl,r1,fun p hp=>c3.lst rm3 (GL r2 lo hi) hp q3⟩)
  ·rename_i us e
   have e':=rJ e;subst e';obtain ⟨a,xs,rfl,r1,r2⟩:=ru3.tup
   by_cases hw:HT.bM xs.length 0 lo=0/\HT.bM xs.length xs.length hi=xs.length
   ·refine .inr ⟨a,xs,rfl,r1,hw,c3 _ _ M3 H3 (aQ.refl _ _) rm3 ?_ q3⟩
    have e4:jT us lo hi=us:=by
     unfold jT;rw [r2.length,hw.1,hw.2,List.drop_zero,Nat.sub_zero,<- r2.length,List.take_length]
    rw [e4];exact ru3
   ·exact .inl (.inr (.inl ⟨a,xs,rfl,r1,hw,fun p hp=>c3.tup rm3 (GL r2 lo hi) hp q3⟩))
  ·rename_i z e
   have e':=Ac e;subst e';exact .inl (.inr (.inr ⟨z,ru3.str,q3.1,c3 _ _ M3 H3 (aQ.refl _ _) rm3 mM q3.2⟩))
  ·exact q3.elim
theorem t9 {D:Dat} {a:Expr} {ta:UE} {pos:Pos} (own:Bool:=false) {lo hi:Option Expr} {tl th:UO} {p2:Pos} (ha:aT D a ta) (hl:Ov D lo tl) (hh:Ov D hi th):aT D (.Subscript a (.Slice lo hi none p2) pos) (wO own ta tl th):=by
 obtain ⟨_,p,s⟩:=ha;obtain ⟨_,q,r⟩:=hl;obtain ⟨_,u,v⟩:=hh;refine ⟨_,fun X h=>?_,PX s r v⟩
 have:=L9 (pos:=pos) (p2:=p2) (Ss.or Pq) (p X h) (q X h) (u X h)
 rw [h.K] at this;exact this
end U2
namespace Att
open PySem PySem.Spec PyProof.Rows PySem.W Calls
theorem Uc (m:Int):(WData.int m).weight=Builtin.Int.intBits m:=by
 unfold WData.weight Builtin.Int.intBits;rfl
end Att
namespace L2
open PySem PySem.Spec PyProof.Rows
end L2
namespace U2
open PySem PySem.Spec PyProof.Rows L2
def mY (ta:UA):UI:=fun τ M R=>ta τ M fun us M1=>match us with
 | [.lst us]=>R ⟨none,us.reverse⟩ M1
 | _=>False
section
variable {prog:Program} {w:World} {A:Around} {E:Value->Shared->Prop} {s:Shared}
end
def eS (o:Bool) (ta:UA):UE:=fun τ M Q=>ta τ M fun us M1=>match us with
 | [x]=>match view M1 x with
  | .lst us=>i7 o us.reverse M1 Q
  | _=>False
 | _=>False
section
variable {prog:Program} {w:World} {A:Around} {E:Value->Shared->Prop} {s:Shared}
end
def fE (te to ti:UE):US:=fun D τ M=>te τ M fun v M1=>to τ M1 fun x M2=>ti τ M2 fun y M3=>match v,x,y with
 | .ref b,.ref l,.int a=>match M3 b,M3 l with
  | some (.lst ws),some (.lst us)=>l≠b/\0<=a/\a<=us.length/\us.length + ws.length<=sizeLine/\D.nx τ (mup M3 l (.lst (us.take a.toNat++ws)))
  | _,_=>False
 | _,_,_=>False
def gQ (o:Bool):List U->aG->UK->Prop:=fun us M Q=>match us with
 | [x]=>match view M x with
  | .lst ws=>∃ ns,intsOf ws=some ns/\ns.length < 64/\∀ ns':List Int,ns'.Perm ns->ns'.Pairwise (·<=·)->i7 o (ns'.map U.int) M Q
  | _=>False
 | _=>False
theorem cU.len {K:PySem.W.Frag} {H:Hp}:∀ {ds:List PyData} {vs:List V},cU K H ds vs->ds.length=vs.length
 | [],vs,h=>by simp only [cU] at h;subst h;rfl
 | d :: ds,vs,h=>by
  simp only [cU] at h;obtain ⟨v,vs',rfl,_,h2⟩:=h;simp only [List.length_cons,cU.len h2]
theorem cU.at {X:Cx} {pins:List (Addr × Obj)} {σ:L2.St} {H:Hp} {s:Shared} (I:L2.Inv X pins σ H s):∀ {ds:List PyData} {vs:List V} {us:List Value},cU X.K H ds vs->Vals vs us->∀ (j:Nat) (d:PyData) (u:Value),ds[j]?=some d->us[j]?=some u->∃ as,Reads s.heap u d as
 | [],vs,us,h,r,j,d,u,e,_=>by cases e
 | d0 :: ds,vs,us,h,r,j,d,u,e,e'=>by
  simp only [cU] at h;obtain ⟨v,vs',rfl,h1,h2⟩:=h
  cases r with
  | cons r rr =>
   cases j with
   | zero=>cases e;cases e';exact h1.reads I r
   | succ j=>exact cU.at I h2 rr j d u e e'
def SQ (K:PySem.W.Frag) (neg:Bool):R2:=fun x y H Q=>∃ a xs ds d,y=.ref a/\(eR K H a xs\/fR K H a xs)/\cU K H ds xs/\gI K H d x/\PyData.canLayAll0 ds=true/\d.canLay0=true/\d.depth<=60/\Q (.bl (if neg then !ds.any (fun e=>PyData.eqv e d) else ds.any (fun e=>PyData.eqv e d))) H
theorem zA:∀ {ds:List PyData},PyData.canLayAll0 ds=true->∀ d∈ds,d.canLay0=true
 | [],_,d,h=>by cases h
 | a :: ds,hh,d,h=>by
  simp only [PyData.canLayAll0,Bool.and_eq_true] at hh
  rcases List.mem_cons.mp h with rfl | h
  ·exact hh.1
  ·exact zA hh.2 d h
variable {X:Cx}
open Classical in
theorem Gg {k:Nat} (hr:cV k X.A) {pins:List (Addr × Obj)} {σ:L2.St} {H:Hp} {s:Shared} (I:L2.Inv X pins σ H s) {ds:List PyData} {vs:List V} {its:List Value} (h:cU X.K H ds vs) (r:Vals vs its) {d:PyData} {x:V} {v:Value} (hd:gI X.K H d x) (rx:RelV x v) (c1:PyData.canLayAll0 ds=true) (c2:d.canLay0=true) (hdep:d.depth<=60) :
  ∃ e:Value->Bool,(∀ y∈its,SeqAt.EqAt X.A.in1 s y v (e y))/\its.any e=ds.any fun d'=>PyData.eqv d' d:=by
 have hl:ds.length=its.length:=by rw [h.len,r.length]
 obtain ⟨bs,rb⟩:=hd.reads I rx
 have key:∀ (j:Nat) (d':PyData) (u:Value),ds[j]?=some d'->its[j]?=some u->SeqAt.EqAt X.A.in1 s u v (PyData.eqv d' d):=fun j d' u e1 e2=>by
  obtain ⟨as,ra⟩:=cU.at I h r j d' u e1 e2;exact SeqAt.eqAt_reads d' d _ _ _ _ _ _ ra rb (zA c1 d' (List.mem_of_getElem? e1)) c2 (by have:=hr.units;show X.A.units + 1 + _ < _;omega)
 refine ⟨fun u=>decide (∃ (j:Nat) (d':PyData),ds[j]?=some d'/\its[j]?=some u/\PyData.eqv d' d=true),fun y hy=>?_,?_⟩
 ·obtain ⟨j,hj⟩:=List.getElem?_of_mem hy
  have hjl:j < ds.length:=by rw [hl];exact (List.getElem?_eq_some_iff.mp hj).1
  have hdj:ds[j]?=some ds[j]:=List.getElem?_eq_getElem hjl;dsimp only
  by_cases hh:∃ (j:Nat) (d':PyData),ds[j]?=some d'/\its[j]?=some y/\PyData.eqv d' d=true
  ·rw [decide_eq_true hh]
   obtain ⟨i,d',e1,e2,e3⟩:=hh;rw [<- e3];exact key i d' y e1 e2
  ·rw [decide_eq_false hh]
   have hf:PyData.eqv ds[j] d=false:=by
    cases hc:PyData.eqv ds[j] d with
    | false=>rfl
    | true=>exact absurd ⟨j,ds[j],hdj,hj,hc⟩ hh
   rw [<- hf];exact key j ds[j] y hdj hj
 ·rw [Bool.eq_iff_iff,List.any_eq_true,List.any_eq_true]
  constructor
  ·rintro ⟨u,hu,he⟩
   obtain ⟨j,d',e1,e2,e3⟩:=of_decide_eq_true he;exact ⟨d',List.mem_of_getElem? e1,e3⟩
  ·rintro ⟨d',hd',he⟩
   obtain ⟨j,hj⟩:=List.getElem?_of_mem hd';have hjl:j < its.length:=by rw [<- hl];exact (List.getElem?_eq_some_iff.mp hj).1
   have hij:its[j]?=some its[j]:=List.getElem?_eq_getElem hjl;exact ⟨its[j],List.getElem_mem hjl,decide_eq_true ⟨j,d',hj,hij,he⟩⟩
theorem JZ {k:Nat} (hr:cV k X.A):dI X (compareOp .NotIn) (SQ X.K true):=by
 intro pins s σ H x y v u Q I rx ry h;obtain ⟨p,xs,ds,d,rfl,hq,hds,hd,c1,c2,hdep,q⟩:=h;cases ry
 rcases hq with hq | hq
 ·obtain ⟨its,r,pl,hz⟩:=I.list hq
  obtain ⟨e,he,hany⟩:=Gg hr I hds r hd rx c1 c2 hdep;refine SeqAt.notIn_listAt e pl.isList (fun w hw=>he w (by simpa using hw)) ⟨.bl _,H,I,rfl,?_⟩;rw [show its.toArray.any e=its.any e by simp,hany];exact q
 ·obtain ⟨its,r,pl,hz⟩:=I.tuple hq
  obtain ⟨e,he,hany⟩:=Gg hr I hds r hd rx c1 c2 hdep;refine SeqAt.notIn_tupleAt e pl (fun w hw=>he w (by simpa using hw)) ⟨.bl _,H,I,rfl,?_⟩;rw [show its.toArray.any e=its.any e by simp,hany];exact q
def Ir (neg:Bool):dY:=fun x y M Q=>∃ us ds d,items M y=some us/\cN us=some ds/\sX M x=some d/\PyData.canLayAll0 ds=true/\d.canLay0=true/\d.depth<=60/\Q (.bl (if neg then !ds.any (fun e=>PyData.eqv e d) else ds.any (fun e=>PyData.eqv e d))) M
theorem Py {K:PySem.W.Frag} {neg:Bool}:dG K (SQ K neg) (Ir neg):=fun x y u w H M Q' rm ru rw h Q c=>by
 obtain ⟨us,ds,d,e1,e2,e3,c1,c2,hdep,q⟩:=h;obtain ⟨p,xs,rfl,hs,rs⟩:=CF rm rw e1;exact ⟨p,xs,ds,d,rfl,hs,nX rs e2,vF rm ru e3,c1,c2,hdep,c.here rm fQ q⟩
theorem Mj {D:Dat}:nS D .NotIn (Ir true):=⟨⟨_,fun X h=>h.K ▸ JZ h.room,Py⟩⟩
def lD (o:Bool):dY:=fun x y M Q=>match view M x,y with
 | .lst us,.int k=>-(2 ^ 63)<=k/\k < 2 ^ 63/\us.length * k.toNat<=sizeLine/\i7 o (List.replicate k.toNat us).flatten M Q
 | _,_=>False
end U2
namespace U2
open PySem PySem.Spec PyProof.Rows L2
def strsOf:List U->Option (List Str)
 | []=>some []
 | .str x :: r=>(strsOf r).map (x :: ·)
 | _=>none
theorem HI:∀ ss:List Str,strsOf (ss.map U.str)=some ss
 | []=>rfl
 | s :: ss=>by simp only [List.map_cons,strsOf,HI ss];rfl
theorem Ii {K:PySem.W.Frag} {H:Hp} {M:aG}:∀ {us:List U} {vs:List V} {ss:List Str},aI K H M us vs->strsOf us=some ss->vs=ss.map V.str
 | [],vs,ss,r,e=>by cases e;exact r.inv_nil
 | u :: us,vs,ss,r,e=>by
  obtain ⟨v,vs',rfl,a,b⟩:=r.inv_cons
  cases u with
  | str x =>
   simp only [strsOf] at e
   cases e2:strsOf us with
   | none=>rw [e2] at e;cases e
   | some ss' =>
    rw [e2] at e;cases e;rw [a.str,Ii b e2];rfl
  | _=>cases e
section
variable {prog:Program} {w:World} {A:Around} {E:Value->Shared->Prop} {s:Shared}
end
section
variable {prog:Program} {w:World} {A:Around} {E:Value->Shared->Prop} {s:Shared}
end
theorem HK {α β:Type} (f:α->Bool) (g:β->Bool):∀ (l:List α) (m:List β),l.length=m.length->(∀ (i:Nat) a b,l[i]?=some a->m[i]?=some b->f a=g b)->l.countP f=m.countP g
 | [],[],_,_=>rfl
 | [],_ :: _,h,_=>by cases h
 | _ :: _,[],h,_=>by cases h
 | a :: l,b :: m,h,k=>by
  rw [List.countP_cons,List.countP_cons,k 0 a b rfl rfl,HK f g l m (by simpa using h) fun i a b h1 h2=>k (i + 1) a b h1 h2]
def yM:List U->Option (List Int)
 | []=>some []
 | .int b :: r=>(yM r).map (b :: ·)
 | _=>none
theorem Ka {K:PySem.W.Frag} {H:Hp} {M:aG}:∀ {us:List U} {vs:List V} {bs:List Int},aI K H M us vs->yM us=some bs->vs=bs.map V.int
 | [],_,_,r,h=>by cases h;exact r.inv_nil
 | u :: us,_,bs,r,h=>by
  obtain ⟨v,vs',rfl,a,b⟩:=r.inv_cons
  cases u with
  | int y =>
   simp only [yM] at h
   cases e:yM us with
   | none=>rw [e] at h;cases h
   | some cs =>
    rw [e] at h;cases h;rw [Ka b e,a.int];rfl
  | _=>cases h
theorem Kw:∀ l:List Int,yM (l.map U.int)=some l
 | []=>rfl
 | a :: l=>by simp only [List.map_cons,yM,Kw l,Option.map_some]
abbrev VO (h:Heap) (z TI TO T:Addr) (f:Bool):Prop :=
 h.get? z=some { cls:=.type "zip",dict:=none,data:=.fields #[rawInt T,.bool f,.bool false,.ref TI,.ref TO],slots:=#[] }
section
variable {prog:Program} {w:World} {A:Around} {E:Value->Shared->Prop} {s:Shared} {z TI TO i1 i2:Addr} {f1 f2:List Addr} {n1 n2:Nat} {P1 P2:Nat->Value->Prop} {S1 S2:Nat->Heap->Prop} {i:Nat} {a b:Value} {T:Addr} {f:Bool}
end
theorem HV:∀ us ws:List U,dE us ws=(us.zip ws).map fun z=>.tup [z.1,z.2]
 | [],ws=>by cases ws <;> rfl
 | _ :: _,[]=>rfl
 | u :: us,w :: ws=>by simp only [dE,List.zip_cons_cons,List.map_cons,HV us ws]
def MT (o:Bool) (ta:UA):UE:=fun τ M Q=>ta τ M fun us M1=>match us with
 | [.tup us,y]=>match view M1 y with
  | .lst ws=>i7 o (dE us ws) M1 Q
  | _=>False
 | _=>False
end U2
namespace L2
open PySem PySem.Spec PyProof.Rows
section
variable {κ:Type} [DecidableEq κ]
def kA (kvs:List (κ × V)) (k:κ):Option V:=(kvs.find? fun kv=>decide (kv.1=k)).map (·.2)
def putK (kvs:List (κ × V)) (k:κ) (v:V):List (κ × V) :=
 if (kvs.any fun kv=>decide (kv.1=k))=true then kvs.map (fun kv=>if kv.1=k then (kv.1,v) else kv) else kvs++[(k,v)]
def u7 (kvs:List (κ × V)) (k:κ):List (κ × V):=kvs.filter fun kv=>decide (kv.1≠k)
theorem kD {p:κ × V} {r:List (κ × V)} {k:κ} (e:p.1=k):kA (p :: r) k=some p.2:=by simp [kA,List.find?_cons,e]
theorem j9 {p:κ × V} {r:List (κ × V)} {k:κ} (e:¬ p.1=k):kA (p :: r) k=kA r k:=by simp [kA,List.find?_cons,e]
theorem uP (k:κ):∀ kvs:List (κ × V),(kvs.any fun kv=>decide (kv.1=k))=(kA kvs k).isSome
 | []=>rfl
 | p :: r=>by
  rw [List.any_cons]
  by_cases e:p.1=k
  ·simp only [kD e,decide_eq_true e,Bool.true_or,Option.isSome_some]
  ·rw [j9 e,decide_eq_false e,Bool.false_or];exact uP k r
theorem LR (k j:κ) (y:V):∀ kvs:List (κ × V),kA (kvs.map fun kv=>if kv.1=k then (kv.1,y) else kv) j=(kA kvs j).map fun x=>if j=k then y else x
 | []=>rfl
 | p :: r=>by
  have ih:=LR k j y r;rw [List.map_cons]
  by_cases h:p.1=k
  ·rw [if_pos h]
   by_cases e:p.1=j
   ·rw [kD (p:=(p.1,y)) e,kD e,Option.map_some,if_pos (e.symm.trans h)]
   ·rw [j9 (p:=(p.1,y)) e,j9 e,ih]
  ·rw [if_neg h]
   by_cases e:p.1=j
   ·rw [kD (p:=p) e,kD e,Option.map_some,if_neg (fun z=>h (e.trans z))]
   ·rw [j9 (p:=p) e,j9 e,ih]
theorem sW (kvs:List (κ × V)) (k:κ) (v:V):(putK kvs k v).length<=kvs.length + 1:=by
 unfold putK;split
 ·rw [List.length_map];omega
 ·rw [List.length_append,List.length_cons,List.length_nil];omega
theorem U1 {kvs:List (κ × V)} {k:κ} (v:V) (h:kA kvs k=none):putK kvs k v=kvs++[(k,v)]:=by
 unfold putK;rw [uP,h];exact if_neg (by decide)
theorem j8.isSome_eq {o:Option V} {u:Option Value} (r:j8 o u):o.isSome=u.isSome:=by
 cases o with
 | none=>cases u with
  | none=>rfl
  | some _=>exact (show False from r).elim
 | some _=>cases u with
  | none=>exact (show False from r).elim
  | some _=>rfl
theorem KV.val {kvs:List (κ × V)} {vs:List (κ × Value)} (r:KV kvs vs) (k:κ):j8 (kA kvs k) (valueAt vs k):=by
 unfold KV at r
 induction r with
 | nil=>exact True.intro
 | @cons p q ps qs h t ih =>
  obtain ⟨h1,h2⟩:=h
  by_cases e:p.1=k
  ·have e':q.1=k:=h1.symm.trans e
   have b:valueAt (q :: qs) k=some q.2:=by simp [valueAt,List.find?_cons,e']
   rw [kD e,b];exact h2
  ·have e':¬ q.1=k:=fun z=>e (h1.trans z)
   have b:valueAt (q :: qs) k=valueAt qs k:=by simp [valueAt,List.find?_cons,e']
   rw [j9 e,b];exact ih
theorem KV.any {kvs:List (κ × V)} {vs:List (κ × Value)} (r:KV kvs vs) (k:κ):(kvs.any fun kv=>decide (kv.1=k))=vs.any fun kv=>decide (kv.1=k):=by
 unfold KV at r
 induction r with
 | nil=>rfl
 | cons h t ih=>rw [List.any_cons,List.any_cons,ih,h.1]
variable {y:V}
theorem KV.repl {kvs:List (κ × V)} {vs:List (κ × Value)} (r:KV kvs vs) (k:κ) {u:Value} (ry:RelV y u) :
  KV (kvs.map fun kv=>if kv.1=k then (kv.1,y) else kv) (vs.map fun kv=>if kv.1=k then (kv.1,u) else kv):=by
 unfold KV at r ⊢
 induction r with
 | nil=>exact .nil
 | @cons p q ps qs h t ih =>
  rw [List.map_cons,List.map_cons];refine .cons ?_ ih;obtain ⟨h1,h2⟩:=h
  by_cases e:p.1=k
  ·rw [if_pos e,if_pos (h1.symm.trans e)];exact ⟨h1,ry⟩
  ·rw [if_neg e,if_neg (fun z=>e (h1.trans z))];exact ⟨h1,h2⟩
theorem KV.put {kvs:List (κ × V)} {vs:List (κ × Value)} (r:KV kvs vs) (k:κ) {u:Value} (ry:RelV y u):KV (putK kvs k y) (stored vs k u):=by
 unfold putK stored;rw [r.any k]
 by_cases e:(vs.any fun kv=>decide (kv.1=k))=true
 ·rw [if_pos e,if_pos e];exact r.repl k ry
 ·rw [if_neg e,if_neg e];exact Paired.snoc r ⟨rfl,ry⟩
theorem KV.length {kvs:List (κ × V)} {vs:List (κ × Value)} (r:KV kvs vs):kvs.length=vs.length:=Paired.length r
end
variable {P:Program} {w:World}
theorem IL {k:Key} {u:Value} (r:RelV (kV k) u):(gF P w).is k u=true:=by
 cases k with
 | inl i=>obtain ⟨t,e⟩:=(show ∃ t,u=Value.int i t from r);subst e;exact FR P w i t
 | inr x=>obtain ⟨t,e⟩:=(show ∃ t,u=Value.str x t from r);subst e;exact FK P w x t
theorem RH {a b:Key} (e:kV a=kV b):a=b:=by
 cases a with
 | inl i=>cases b with
  | inl j=>have e':V.int i=V.int j:=e;injection e' with e';rw [e']
  | inr y=>exact nomatch (show V.int i=V.str y from e)
 | inr x=>cases b with
  | inl j=>exact nomatch (show V.str x=V.int j from e)
  | inr y=>have e':V.str x=V.str y:=e;injection e' with e';rw [e']
theorem PR:∀ {a b:List Key},a.map kV=b.map kV->a=b
 | [],[],_=>rfl
 | [],_ :: _,e=>by simp at e
 | _ :: _,[],e=>by simp at e
 | x :: xs,y :: ys,e=>by
  rw [List.map_cons,List.map_cons] at e
  injection e with e1 e2
  rw [RH e1,PR e2]
theorem Cr {P:Program} {w:World}:∀ {ks:List Key} {us:List Value},Vals (ks.map kV) us->ItemsAre (gF P w) ks us
 | [],_,r=>by rw [List.map_nil] at r;cases r;exact .nil
 | k :: ks,_,r=>by
  rw [List.map_cons] at r
  cases r with
  | cons h t=>exact .cons (IL h) (Cr t)
abbrev rS (H:Hp):List (List Key × V)->List (List Key × Addr × Value)->Prop:=Paired fun p q=>p.1=q.1/\H q.2.1=some (.tup (p.1.map kV))/\RelV p.2 q.2.2
variable {H:Hp} {kvs:List (List Key × V)} {xs:List (List Key × Addr × Value)}
theorem rS.val (r:rS H kvs xs) (k:List Key):j8 (kA kvs k) ((atKey xs k).map (·.2)):=by
 induction r with
 | nil=>exact True.intro
 | @cons p q ps qs h t ih =>
  obtain ⟨h1,_,h2⟩:=h
  by_cases e:p.1=k
  ·have e':q.1=k:=h1.symm.trans e
   have b:atKey (q :: qs) k=some q.2:=by simp [atKey,List.find?_cons,e']
   rw [kD e,b];exact h2
  ·have e':¬ q.1=k:=fun z=>e (h1.trans z)
   have b:atKey (q :: qs) k=atKey qs k:=by simp [atKey,List.find?_cons,e']
   rw [j9 e,b];exact ih
variable {y:V}
theorem rS.repl (r:rS H kvs xs) (k:List Key) {u:Value} (ry:RelV y u) :
  rS H (kvs.map fun kv=>if kv.1=k then (kv.1,y) else kv) (xs.map (putAt k u)):=by
 induction r with
 | nil=>exact .nil
 | @cons p q ps qs h t ih =>
  rw [List.map_cons,List.map_cons];refine .cons ?_ ih;obtain ⟨h1,h2,h3⟩:=h;unfold putAt
  by_cases e:p.1=k
  ·rw [if_pos e,if_pos (h1.symm.trans e)];exact ⟨h1,h2,ry⟩
  ·rw [if_neg e,if_neg (fun z=>e (h1.trans z))];exact ⟨h1,h2,h3⟩
variable {b:Addr}
theorem rS.put (r:rS H kvs xs) (k:List Key) {u:Value} (hb:H b=some (.tup (k.map kV))) (ry:RelV y u) :
  rS H (putK kvs k y) (storedH xs k b u):=by
 have e:(kvs.any fun kv=>decide (kv.1=k))=(atKey xs k).isSome:=by
  rw [uP,(r.val k).isSome_eq,Option.isSome_map]
 unfold putK storedH;rw [e]
 by_cases q:(atKey xs k).isSome=true
 ·rw [if_pos q,if_pos q];exact r.repl k ry
 ·rw [if_neg q,if_neg q];exact Paired.snoc r ⟨rfl,hb,ry⟩
theorem rS.keeps {H':Hp} (r:rS H kvs xs) (ht:∀ b ys,H b=some (.tup ys)->H' b=some (.tup ys)):rS H' kvs xs :=
 Paired.mapP r fun _ _ z=>⟨z.1,ht _ _ z.2.1,z.2.2⟩
section
variable {P:Program} {w:World} {H:Hp} {h:Heap} {a:Addr}
theorem N2 {u:HO} (ok:fD P w H h) (e:Rd H a u):cZ P w H h a u:=e.ok ok
variable {kvs:List (Key × V)}
theorem IJ (ok:fD P w H h) (e:Rd H a (.dK kvs)):kvs.length<=sizeLine/\(a == sysModules)=false/\∃ vs,KV kvs vs/\h.DictOf (gF P w) a vs :=
 show cZ P w H h a (.dK kvs) from N2 ok e
theorem T7 (ok:fD P w H h) (e:H a=some (.dK kvs)):kvs.length<=sizeLine/\(a == sysModules)=false/\∃ vs,KV kvs vs/\h.DictOf (gF P w) a vs:=IJ ok (.inl e)
theorem DD {ks:List Key} (ok:fD P w H h) (e:H a=some (.tup (ks.map kV))):(tupleKind (gF P w)).is h ks a:=by
 obtain ⟨_,its,r,o,h1,h2,_,n,h3⟩:=(show cZ P w H h a (.tup (ks.map kV)) from ok a _ e);exact ⟨o,its.toArray,n,h1,h2,h3,by simpa using Cr r⟩
variable {kvs:List (List Key × V)}
theorem Hq (ok:fD P w H h) (e:Rd H a (.dT kvs)):kvs.length<=sizeLine/\(a == sysModules)=false /\
  ∃ xs,rS H kvs xs/\h.DictOfH (tupleKind (gF P w)) a xs:=by
 obtain ⟨z,y,xs,r,o,es,ep,h1,h2,h3,h4,h5⟩:=(show cZ P w H h a (.dT kvs) from N2 ok e);refine ⟨z,y,xs,r,o,es,ep,h1,h2,h3,h4,fun x hx=>?_,h5⟩
 have all:∀ {l:List (List Key × V)} {m:List (List Key × Addr × Value)},rS H l m->∀ x∈m,(tupleKind (gF P w)).is h x.1 x.2.1:=by
  intro l m q
  induction q with
  | nil=>intro x hx;exact nomatch hx
  | @cons p q ps qs hq t ih =>
   intro x hx
   rcases List.mem_cons.mp hx with e | hx
   ·subst e
    exact DD ok (by rw [<- hq.1];exact hq.2.1)
   ·exact ih x hx
 exact all r x hx
theorem TJ (ok:fD P w H h) (e:H a=some (.dT kvs)):kvs.length<=sizeLine/\(a == sysModules)=false /\
  ∃ xs,rS H kvs xs/\h.DictOfH (tupleKind (gF P w)) a xs:=Hq ok (.inl e)
end
def ES (H:Hp) (a:Addr) (y:V) (r:Option V):Prop :=
 (∃ kvs k,Rd H a (.dK kvs)/\y=kV k/\r=kA kvs k)\/∃ kvs k b,Rd H a (.dT kvs)/\y=.ref b/\H b=some (.tup (k.map kV))/\r=kA kvs k
def Bn (H:Hp) (a:Addr) (y v:V) (H':Hp):Prop :=
 (∃ kvs k,H a=some (.dK kvs)/\y=kV k/\kvs.length < sizeLine/\H'=upd H a (.dK (putK kvs k v))) \/
 ∃ kvs k b,H a=some (.dT kvs)/\y=.ref b/\H b=some (.tup (k.map kV))/\kvs.length < sizeLine/\H'=upd H a (.dT (putK kvs k v))
theorem Bn.k {H:Hp} {a:Addr} {kvs:List (Key × V)} {k:Key} {v:V} (e:H a=some (.dK kvs)) (hl:kvs.length < sizeLine):Bn H a (kV k) v (upd H a (.dK (putK kvs k v))):=.inl ⟨kvs,k,e,rfl,hl,rfl⟩
variable {a:Addr}
theorem Bn.t {k:List Key} {v:V} (e:H a=some (.dT kvs)) (eb:H b=some (.tup (k.map kV))) (hl:kvs.length < sizeLine) :
  Bn H a (.ref b) v (upd H a (.dT (putK kvs k v))):=.inr ⟨kvs,k,b,e,rfl,eb,hl,rfl⟩
section
variable {X:Cx} {pins:List (Addr × Obj)} {σ:St} {H:Hp} {s:Shared} {a:Addr} {y v:V} {u r:Value} {o:Option V} {A:Around} {E:Value->Shared->Prop}
theorem Inv.big (I:Inv X pins σ H s):sysModules < s.heap.objs.size:=by
 have h:mainGlobals < s.heap.objs.size:=(I.mod.glob.keeps I.bk).lt;exact Nat.lt_trans (by decide) h
theorem JQ {Q:Value->Shared->Prop} (hu:A.units + 1 < cLine) (I:Inv X pins σ H s) (g:ES H a y (some v)) (ry:RelV y u) (h:∀ w' s',Inv X pins σ H s'->RelV v w'->Q w' s') :
  wpAny (model X.prog X.w) A (getItem (.ref a) u) Q E s:=by
 rcases g with ⟨kvs,k,e,ey,l⟩ | ⟨kvs,k,b,e,ey,eb,l⟩
 ·subst ey
  obtain ⟨z,hd,vs,rel,dd⟩:=IJ I.hok e;obtain ⟨w',hw,rw'⟩:=j8.some_of (v:=v) (o:=valueAt vs k) (by rw [l];exact rel.val k);exact wpAny_getItem_of (IL ry) dd.mapOf hw (h w' _ (I.tok _) rw')
 ·subst ey
  cases (show u=Value.ref b from ry);obtain ⟨z,hd,xs,rel,dd⟩:=Hq I.hok e;obtain ⟨w',hw,rw'⟩:=j8.some_of (v:=v) (o:=(atKey xs k).map (·.2)) (by rw [l];exact rel.val k);obtain ⟨p,hp,hp2⟩:=Option.map_eq_some_iff.mp hw;refine wpAny_getItem_heap (tupleKind_room_in1 hu) (DD I.hok eb) dd hp ?_;rw [hp2];exact h w' _ (I.tok _) rw'
variable {h':Heap}
theorem Ce {t':Nat} {ob:HO} (I:Inv X pins σ H s) (mu:Jw (H a)) (hs:Heap.SameBut a s.heap h') (he:∃ q,h'.get? a=some q) (new:cZ X.prog X.w (upd H a ob) h' a ob) :
  Inv X pins σ (upd H a ob) { s with heap:=h',toks:=t' } :=
 I.write (x:=a) (e:=a) mu (.inl rfl) (fun b q hb z=>(hs.2 b hb).trans z) he new
variable {H':Hp}
theorem Rp {P:Program} {w:World} {kvs:List (Key × V)} {vs:List (Key × Value)} (z:kvs.length<=sizeLine) (hd:(a == sysModules)=false) (rel:KV kvs vs) (dd:h'.DictOf (gF P w) a vs) :
  cZ P w H' h' a (.dK kvs):=⟨z,hd,vs,rel,dd⟩
theorem J2 {Q:Unit->Shared->Prop} (hu:A.units + 1 < cLine) (I:Inv X pins σ H s) (g:Bn H a y v H') (ry:RelV y u) (rv:RelV v r) (h:∀ s',Inv X pins σ H' s'->Q () s') :
  wpAny (model X.prog X.w) A (setItem (.ref a) u r) Q E s:=by
 rcases g with ⟨kvs,k,e,ey,l,eH⟩ | ⟨kvs,k,b,e,ey,eb,l,eH⟩
 ·subst ey eH
  obtain ⟨z,hd,vs,rel,dd⟩:=T7 I.hok e;have hz:vs.length<=sizeLine:=by rw [<- rel.length];exact z
  have hl:(putK kvs k v).length<=sizeLine:=by have:=sW kvs k v;omega
  refine wpAny_setItem_pairs (hsz:=hz) (IL ry) dd fun h' dd' hs=>h _ ?_
  have he:∃ q,h'.get? a=some q:=let ⟨q,_,_,hq,_⟩:=dd';⟨q,hq⟩
  exact Ce I (by rw [e];exact True.intro) hs he (Rp hl hd (rel.put k rv) dd')
 ·subst ey eH
  cases (show u=Value.ref b from ry);obtain ⟨z,hd,xs,rel,dd⟩:=TJ I.hok e;have hz:xs.length<=sizeLine:=by rw [<- Paired.length rel];exact z
  have hl:(putK kvs k v).length<=sizeLine:=by have:=sW kvs k v;omega
  refine wpAny_setItem_heap (hsz:=hz) (tupleKind_room_in1 hu) (DD I.hok eb) dd fun h' dd' hs=>h _ ?_;obtain ⟨q,es,ep,hq,h2,h3,h4,_,h5⟩:=dd';refine Ce I (by rw [e];exact True.intro) hs ⟨q,hq⟩ ⟨hl,hd,_,(rel.put k eb rv).keeps fun c ys ec=>?_,q,es,ep,hq,h2,h3,h4,h5⟩;rw [bK (N4 ec e (fun z=>nomatch z))];exact ec
end
section
variable {X:Cx} {pins:List (Addr × Obj)} {σ:St} {H:Hp} {s:Shared} {a:Addr} {kvs:List (Key × V)} {k:Key} {u:Value} {A:Around} {E:Value->Shared->Prop}
end
def DZ (i:Expr):Prop:=∀ ov iv,subscripted i false ov iv=operate [ov,iv] (getItem ov iv)
variable {s:Shared}
theorem Gn {prog:Program} {A:Around} {E:Value->Shared->Prop} {env:Env} {value slice:Expr} {pos:Pos} {T id:String} {Q:Value->Shared->Prop}
  (hl:typeLookup (.type T) "__getitem__"=pure (some (.builtin id))) (hs:DZ slice)
  (h:wpAny (model prog w) A (eval value env) (fun o s₁=>wpAny (model prog w) A (eval slice env) (fun i s₂=>s₂.TypeIs o T/\wpAny (model prog w) A (getItem o i) Q E s₂) E s₁) E s) :
  wpAny (model prog w) A (eval (.Subscript value slice pos) env) Q E s:=by
 refine Subscript_ (wpAny_mono h (fun o s₁ h₁=>wpAny_mono h₁ (fun i s₂ h₂=>?_) fun _ _ x=>x) fun _ _ x=>x);obtain ⟨hT,h₂⟩:=h₂;unfold subscriptTail;refine wpAny_bind ?_;rw [getitemInPython_of_ne hT.not_modules];refine wpAny_bind (wpAny_specialOf hT hl ?_)
 have fin:wpAny (model prog w) A (subscripted slice false o i) (fun r s₃=>wpAny (model prog w) A (letTemporaryGo value o r >>= fun _=>pure r) Q E s₃) E s₂:=by
  rw [hs o i];exact wpAny_operating (wpAny_mono h₂ (fun r s₃ h₃=>wpAny_bind (wpAny_letTemporaryGo (wpAny_pure h₃))) fun _ _ x=>x)
 first
  | exact wpAny_pure (wpAny_bind fin)
  | exact wpAny_bind (wpAny_pure (wpAny_bind fin))
  | exact wpAny_bind fin
theorem FT {X:Cx} {pins:List (Addr × Obj)} {σ:St} {o:Option V} (I:Inv X pins σ H s) (g:ES H a y o):s.TypeIs (.ref a) "dict":=by
 rcases g with ⟨kvs,k,e,_,_⟩ | ⟨kvs,k,b,e,_,_,_⟩
 ·obtain ⟨_,_,vs,_,dd⟩:=IJ I.hok e
  exact dd.typeIs
 ·obtain ⟨_,_,xs,_,dd⟩:=Hq I.hok e
  exact dd.typeIs
def TL (td ty:TE):TE:=fun σ H Q=>td σ H fun x H1=>ty σ H1 fun y H2=>∃ a v,x=.ref a/\ES H2 a y (some v)/\Q v H2
def TY (td ty tv:TE):TS:=fun D σ H=>tv σ H fun v H1=>td σ H1 fun x H2=>ty σ H2 fun y H3=>∃ a H4,x=.ref a/\Bn H3 a y v H4/\D.nx σ H4
section
variable {X:Cx} {o i e value:Expr} {pos pos' tpos:Pos} {td ty tv:TE}
theorem Pr (hu:X.A.units + 1 < cLine) (ho:PE X o td) (hi:PE X i ty) (hs:DZ i):PE X (.Subscript o i pos) (TL td ty):=by
 intro pins s σ H Q I h;refine Gn PySem.F.slot_dict_getitem.lookup hs (bD (ho pins s σ H _ I h) fun u s1 ⟨x,H1,I1,rx,q1⟩=>bD (hi pins s1 σ H1 _ I1 q1) fun iv s2 ⟨y,H2,I2,ry,a,v,ex,g,q2⟩=>?_);subst ex;obtain rfl:u=Value.ref a:=rx;exact ⟨FT I2 g,JQ hu I2 g ry fun w' s3 I3 rw'=>⟨v,H2,I3,rw',q2⟩⟩
theorem O0 (hu:X.A.units + 1 < cLine) (ho:PE X o td) (hi:PE X i ty) (hv:PE X value tv) (hs:swapsWith value (some (.Subscript o i pos')) pos.line X.env=pure false) :
  PS X (.Assign [.Subscript o i pos'] value pos) (TY td ty tv):=by
 intro pins s σ H D I h;refine wpAny_Assign_Subscript (bD (hv pins s σ H _ I h) fun r s1 ⟨v,H1,I1,rv,q1⟩=>bD (ho pins s1 σ H1 _ I1 q1) fun u s2 ⟨x,H2,I2,rx,q2⟩=>bD (hi pins s2 σ H2 _ I2 q2) fun iv s3 ⟨y,H3,I3,ry,a,H4,ex,g,q3⟩=>?_) hs;subst ex;obtain rfl:u=Value.ref a:=rx;exact J2 hu I3 g ry rv fun s4 I4=>⟨σ,H4,I4,q3⟩
end
theorem LL (h:Heap) (hb:sysModules < h.objs.size):cZ P w H (h.push { cls:=.type "dict",data:=.dict #[] }) h.objs.size (.dK []) :=
 ⟨Nat.zero_le _,beq_eq_false_iff_ne.mpr (Ne.symm (Nat.ne_of_lt hb)),[],.nil,Heap.DictOf.new h⟩
theorem DL (h:Heap) (hb:sysModules < h.objs.size):cZ P w H (h.push { cls:=.type "dict",data:=.dict #[] }) h.objs.size (.dT []) :=
 ⟨Nat.zero_le _,beq_eq_false_iff_ne.mpr (Ne.symm (Nat.ne_of_lt hb)),[],.nil,_,#[],0,Heap.get?_push_size _ rfl,⟨rfl,rfl,rfl⟩,rfl,rfl,List.nodup_nil⟩
def Jj:TE:=fun _ H Q=>∀ p,H p=none->Q (.ref p) (upd H p (.dK []))
def Ln:TE:=fun _ H Q=>∀ p,H p=none->Q (.ref p) (upd H p (.dT []))
section
variable {X:Cx} {pos:Pos}
theorem M9:PE X (.Dict [] [] pos) Jj:=fun pins s σ H Q I h =>
 wpAny_Dict_empty ⟨.ref s.heap.objs.size,_,I.laid (a:=s.heap.objs.size) (o:=.dK []) (t':=s.toks) (fun _ _ q=>Heap.get?_push_of_some _ q) (Nat.le_refl _) (LL s.heap I.big),rfl,h _ (I.hok.fresh (Nat.le_refl _))⟩
theorem MR:PE X (.Dict [] [] pos) Ln:=fun pins s σ H Q I h =>
 wpAny_Dict_empty ⟨.ref s.heap.objs.size,_,I.laid (a:=s.heap.objs.size) (o:=.dT []) (t':=s.toks) (fun _ _ q=>Heap.get?_push_of_some _ q) (Nat.le_refl _) (DL s.heap I.big),rfl,h _ (I.hok.fresh (Nat.le_refl _))⟩
end
abbrev VV:List (V × V)->List (Value × Value)->Prop:=Paired fun p q=>RelV p.1 q.1/\RelV p.2 q.2
section
variable {X:Cx} {pins:List (Addr × Obj)} {σ:St} {H:Hp} {s:Shared} {a:Addr} {y d:V} {u r:Value} {o:Option V} {A:Around} {E:Value->Shared->Prop}
end
section
variable {X:Cx} {o e f:Expr} {apos cpos:Pos} {td ty tx:TE}
end
section
variable {X:Cx} {pins:List (Addr × Obj)} {σ:St} {H:Hp} {s:Shared} {a:Addr} {kvs:List (Key × V)} {A:Around} {E:Value->Shared->Prop}
end
section
variable {X:Cx} {pins:List (Addr × Obj)} {σ:St} {H:Hp} {s:Shared} {a:Addr} {y:V} {u:Value} {A:Around} {E:Value->Shared->Prop}
end
section
variable {X:Cx}
end
section
variable {κ:Type} [DecidableEq κ]
theorem UC {p:κ × V} {r:List (κ × V)} {k:κ} (e:p.1=k):u7 (p :: r) k=u7 r k:=by
 unfold u7;rw [List.filter_cons,if_neg (by simp [e])]
theorem JI {p:κ × V} {r:List (κ × V)} {k:κ} (e:¬ p.1=k):u7 (p :: r) k=p :: u7 r k:=by
 unfold u7;rw [List.filter_cons,if_pos (by simp [e])]
theorem LF:∀ {kvs:List (κ × V)} {k:κ},¬ k∈kvs.map (·.1)->u7 kvs k=kvs
 | [],_,_=>rfl
 | p :: r,k,h=>by
  have h':¬ k∈r.map (·.1):=fun m=>by
   obtain ⟨q,hq,e⟩:=List.mem_map.mp m;exact h (List.mem_map.mpr ⟨q,List.mem_cons.mpr (Or.inr hq),e⟩)
  rw [JI fun e=>h (List.mem_map.mpr ⟨p,List.mem_cons.mpr (Or.inl rfl),e⟩),LF h']
end
end L2
namespace U2
open PySem PySem.Spec PyProof.Rows L2
def yJ (_:PySem.W.Frag):Prop:=True
def xI:U->Option Key
 | .int i=>some (.inl i)
 | .str x=>some (.inr x)
 | _=>none
def o6:List U->Option (List Key)
 | []=>some []
 | u :: us=>match xI u,o6 us with
  | some k,some ks=>some (k :: ks)
  | _,_=>none
def kU:Key->U
 | .inl i=>.int i
 | .inr x=>.str x
theorem Pc (k:Key):xI (kU k)=some k:=by cases k <;> rfl
theorem MH:∀ ks:List Key,o6 (ks.map kU)=some ks
 | []=>rfl
 | k :: ks=>by simp only [List.map_cons,o6,Pc,MH ks]
variable {K:PySem.W.Frag} {H:Hp} {M:aG}
theorem Af {u:U} {v:V} {k:Key} (r:aM K H M u v) (e:xI u=some k):v=kV k:=by
 cases u with
 | int i=>cases e;exact r.int
 | str x=>cases e;exact r.str
 | _=>cases e
theorem Cm {K:PySem.W.Frag} {H:Hp} {M:aG}:∀ {us:List U} {vs:List V} {ks:List Key},aI K H M us vs->o6 us=some ks->vs=ks.map kV
 | [],_,_,r,e=>by cases e;exact r.inv_nil
 | u :: us,_,ks,r,e=>by
  obtain ⟨v,vs',rfl,a,b⟩:=r.inv_cons;simp only [o6] at e
  cases e1:xI u with
  | none=>rw [e1] at e;cases e
  | some k =>
   cases e2:o6 us with
   | none=>rw [e1,e2] at e;cases e
   | some ks' =>
    rw [e1,e2] at e;cases e;rw [Af a e1,Cm b e2];rfl
section
variable {κ:Type} [DecidableEq κ]
def dS (kvs:List (κ × U)) (k:κ):Option U:=(kvs.find? fun kv=>decide (kv.1=k)).map (·.2)
def jF (kvs:List (κ × U)) (k:κ) (u:U):List (κ × U) :=
 if (kvs.any fun kv=>decide (kv.1=k))=true then kvs.map (fun kv=>if kv.1=k then (kv.1,u) else kv) else kvs++[(k,u)]
theorem DS {k:κ}:dS ([]:List (κ × U)) k=none:=rfl
theorem j6 {p:κ × U} {r:List (κ × U)} {k:κ} (e:p.1=k):dS (p :: r) k=some p.2:=by simp [dS,List.find?_cons,e]
theorem kB {p:κ × U} {r:List (κ × U)} {k:κ} (e:¬ p.1=k):dS (p :: r) k=dS r k:=by simp [dS,List.find?_cons,e]
theorem Aj (k:κ):∀ kvs:List (κ × U),(kvs.any fun kv=>decide (kv.1=k))=(dS kvs k).isSome
 | []=>rfl
 | p :: r=>by
  rw [List.any_cons]
  by_cases e:p.1=k
  ·simp only [j6 e,decide_eq_true e,Bool.true_or,Option.isSome_some]
  ·rw [kB e,decide_eq_false e,Bool.false_or];exact Aj k r
theorem Nh {kvs:List (κ × U)} {k:κ} {u:U} (h:dS kvs k=none):jF kvs k u=kvs++[(k,u)]:=by
 unfold jF;rw [Aj,h];exact if_neg (by decide)
theorem LX {kvs:List (κ × U)} {k:κ} {u w:U} (h:dS kvs k=some w):jF kvs k u=kvs.map (fun kv=>if kv.1=k then (kv.1,u) else kv):=by
 unfold jF;rw [Aj,h];exact if_pos rfl
theorem M7 (kvs:List (κ × U)) (k:κ) (u:U):(jF kvs k u).length<=kvs.length + 1:=by
 unfold jF;split
 ·rw [List.length_map];omega
 ·rw [List.length_append,List.length_cons,List.length_nil];omega
variable {K:PySem.W.Frag} {H:Hp} {M:aG}
theorem bI.any {kvs:List (κ × U)} {ws:List (κ × V)} (r:bI K H M kvs ws) (k:κ):(kvs.any fun kv=>decide (kv.1=k))=ws.any fun kv=>decide (kv.1=k):=by
 unfold bI at r
 induction r with
 | nil=>rfl
 | cons h t ih=>rw [List.any_cons,List.any_cons,ih,h.1]
def AH (K:PySem.W.Frag) (H:Hp) (M:aG):Option U->Option V->Prop
 | none,none=>True
 | some u,some v=>aM K H M u v
 | _,_=>False
theorem bI.val {kvs:List (κ × U)} {ws:List (κ × V)} (r:bI K H M kvs ws) (k:κ):AH K H M (dS kvs k) (kA ws k):=by
 unfold bI at r
 induction r with
 | nil=>exact True.intro
 | @cons p q ps qs h t ih =>
  obtain ⟨h1,h2⟩:=h
  by_cases e:p.1=k
  ·rw [j6 e,kD (h1.symm.trans e)];exact h2
  ·rw [kB e,j9 (fun z=>e (h1.trans z))];exact ih
variable {v:V}
theorem bI.repl {kvs:List (κ × U)} {ws:List (κ × V)} (r:bI K H M kvs ws) (k:κ) {u:U} (ru:aM K H M u v):bI K H M (kvs.map fun kv=>if kv.1=k then (kv.1,u) else kv) (ws.map fun kv=>if kv.1=k then (kv.1,v) else kv):=by
 unfold bI at r ⊢
 induction r with
 | nil=>exact .nil
 | @cons p q ps qs h t ih =>
  rw [List.map_cons,List.map_cons];refine .cons ?_ ih;obtain ⟨h1,h2⟩:=h
  by_cases e:p.1=k
  ·rw [if_pos e,if_pos (h1.symm.trans e)];exact ⟨h1,ru⟩
  ·rw [if_neg e,if_neg (fun z=>e (h1.trans z))];exact ⟨h1,h2⟩
theorem bI.put {kvs:List (κ × U)} {ws:List (κ × V)} (r:bI K H M kvs ws) (k:κ) {u:U} (ru:aM K H M u v):bI K H M (jF kvs k u) (putK ws k v):=by
 unfold jF putK;rw [r.any k];split
 ·exact r.repl k ru
 ·exact Paired.snoc r ⟨rfl,ru⟩
theorem bI.length {kvs:List (κ × U)} {ws:List (κ × V)} (r:bI K H M kvs ws):kvs.length=ws.length:=Paired.length r
theorem EI:∀ {ws:List (κ × V)} {us:List U},aI K H M us (ws.map (·.2))->bI K H M ((ws.map (·.1)).zip us) ws
 | [],us,r=>by
  have:=r.length
  cases us with
  | nil=>exact .nil
  | cons _ _=>simp at this
 | w :: ws,us,r=>by
  cases us with
  | nil=>have:=r.length;simp at this
  | cons u us =>
   obtain ⟨v,vs',e,a,b⟩:=r.inv_cons;rw [List.map_cons] at e;cases e;exact .cons ⟨rfl,a⟩ (EI b)
end
def Q9:List Key->Key
 | [k]=>k
 | _=>.inl 0
def Fb (M:aG):U->Option MO
 | .ref a=>M a
 | .dic ks true us=>some (.dT (ks.zip us))
 | .dic ks false us=>some (.dK ((ks.map Q9).zip us))
 | _=>none
section
variable {K:PySem.W.Frag} {H:Hp} {M:aG} {x y:U} {v u:V}
theorem T9 {kvs:List (Key × U)} (rm:RelM K H M) (r:aM K H M x v) (e:Fb M x=some (.dK kvs)):∃ a ws,v=.ref a/\Rd H a (.dK ws)/\bI K H M kvs ws:=by
 cases x with
 | ref a=>obtain ⟨ws,h1,h2⟩:=rm a _ e;exact ⟨a,ws,r.ref,.inl h1,h2⟩
 | dic ks tk us =>
  cases tk with
  | true=>cases e
  | false =>
   simp only [Fb] at e;cases e;simp only [aM] at r;obtain ⟨a,vs,rfl,m,⟨ws,h1,rfl,rfl⟩,ru⟩:=r;refine ⟨a,ws,rfl,h1,?_⟩;have e1:(ws.map (fun p=>[p.1])).map Q9=ws.map (·.1):=by rw [List.map_map];rfl
   rw [e1];exact EI ru
 | _=>cases e
theorem TH {kvs:List (List Key × U)} (rm:RelM K H M) (r:aM K H M x v) (e:Fb M x=some (.dT kvs)):∃ a ws,v=.ref a/\Rd H a (.dT ws)/\bI K H M kvs ws:=by
 cases x with
 | ref a=>obtain ⟨ws,h1,h2⟩:=rm a _ e;exact ⟨a,ws,r.ref,.inl h1,h2⟩
 | dic ks tk us =>
  cases tk with
  | false=>cases e
  | true =>
   simp only [Fb] at e;cases e;simp only [aM] at r;obtain ⟨a,vs,rfl,m,⟨ws,h1,rfl,rfl⟩,ru⟩:=r;exact ⟨a,ws,rfl,h1,EI ru⟩
 | _=>cases e
theorem GZ {ys:List U} {ks:List Key} (hk:yJ K) (r:aM K H M (.tup ys) u) (e:o6 ys=some ks):∃ b,u=.ref b/\H b=some (.tup (ks.map kV)):=by
 simp only [aM] at r;obtain ⟨b,vs,rfl,h,ru⟩:=r
 have:=Cm ru e
 subst this;exact ⟨b,rfl,h.2⟩
def yR (tk:Bool) (M:aG) (x y:U):Option (Option U):=match tk with
 | false=>match Fb M x,xI y with
  | some (.dK kvs),some k=>some (dS kvs k)
  | _,_=>none
 | true=>match Fb M x,y with
  | some (.dT kvs),.tup ys=>(o6 ys).map (dS kvs)
  | _,_=>none
theorem Kj {tk:Bool} {o:Option U} (hk:tk=true->yJ K) (rm:RelM K H M) (rx:aM K H M x v) (ry:aM K H M y u) (e:yR tk M x y=some o):∃ a ov,v=.ref a/\ES H a u ov/\AH K H M o ov:=by
 cases tk with
 | false =>
  simp only [yR] at e;split at e
  ·rename_i kvs k e1 e2
   cases e;obtain ⟨a,ws,rfl,h1,h2⟩:=T9 rm rx e1
   have:=Af ry e2
   subst this;exact ⟨a,_,rfl,.inl ⟨_,k,h1,rfl,rfl⟩,h2.val k⟩
  ·cases e
 | true =>
  simp only [yR] at e;split at e
  ·rename_i kvs ys e1
   obtain ⟨a,ws,rfl,h1,h2⟩:=TH rm rx e1
   cases e3:o6 ys with
   | none=>rw [e3] at e;cases e
   | some ks =>
    rw [e3] at e;cases e;obtain ⟨b,rfl,hb⟩:=GZ (hk rfl) ry e3;exact ⟨a,_,rfl,.inr ⟨_,ks,b,h1,rfl,hb,rfl⟩,h2.val ks⟩
  ·cases e
end
def yB (tk:Bool):dY:=fun x y M Q=>match yR tk M x y with
 | some (some u)=>Q u M
 | _=>False
def Ob:R2:=fun x y H Q=>∃ a v,x=.ref a/\ES H a y (some v)/\Q v H
theorem L4 {tk:Bool} (hk:tk=true->yJ K):dG K Ob (yB tk):=fun x y u w H M Q' rm ru rw h Q c=>by
 unfold yB at h;split at h
 ·rename_i z e
  obtain ⟨a,ov,rfl,g,r⟩:=Kj hk rm ru rw e
  cases ov with
  | none=>exact r.elim
  | some v=>exact ⟨a,v,rfl,g,c.here rm r h⟩
 ·exact h.elim
section
variable {D:Dat} {a b c e o i:Expr} {ta tb tc te to ti:UE} {pos p:Pos} {es:List Expr} {tas:UA} {x:Str}
variable {K:PySem.W.Frag}
theorem Iq:false=true->yJ K:=fun h=>by cases h
theorem B0 (tk:Bool) (hk:tk=true->yJ D.K) (ha:aT D a ta) (hb:aT D b tb) (hs:DZ b:=by intro _ _;rfl):aT D (.Subscript a b pos) (l9 (yB tk) ta tb):=by
 obtain ⟨_,p,s⟩:=ha;obtain ⟨_,q,r⟩:=hb;exact ⟨E4 Ob _ _,fun X h=>Pr (Og h.room) (p X h) (q X h) hs,tY (L4 hk) s r⟩
theorem AH.isSome_eq {H:Hp} {M:aG} {o:Option U} {ov:Option V} (r:AH K H M o ov):o.isSome=ov.isSome:=by
 cases o <;> cases ov <;> first | rfl | exact r.elim
def Uz (tk:Bool):MO:=if tk then .dT [] else .dK []
def Ox (tk:Bool):UE:=fun _ M Q=>∀ p,M p=none->Q (.ref p) (mup M p (Uz tk))
theorem QA (tk:Bool):aT D (.Dict [] [] pos) (Ox tk):=by
 cases tk with
 | false =>
  refine ⟨Jj,fun X h=>M9,fun σ τ H M Q' rs rm h Q c p hp=>?_⟩;have st:aQ H M (upd H p (.dK [])) (mup M p (.dK [])):=aQ.own rm hp;exact c (.ref p) _ _ _ st (rm.put st ⟨[],bY,.nil⟩) i6 (h p (rm.no hp))
 | true =>
  refine ⟨Ln,fun X h=>MR,fun σ τ H M Q' rs rm h Q c p hp=>?_⟩;have st:aQ H M (upd H p (.dT [])) (mup M p (.dT [])):=aQ.own rm hp;exact c (.ref p) _ _ _ st (rm.put st ⟨[],bY,.nil⟩) i6 (h p (rm.no hp))
def Oj (tk:Bool) (te to ti:UE):US:=fun D τ M=>te τ M fun v M1=>to τ M1 fun x M2=>ti τ M2 fun y M3=>match x with
 | .ref a=>match tk with
  | false=>match M3 a,xI y with
   | some (.dK kvs),some k=>kvs.length < sizeLine/\D.nx τ (mup M3 a (.dK (jF kvs k v)))
   | _,_=>False
  | true=>match M3 a,y with
   | some (.dT kvs),.tup ys=>match o6 ys with
    | some ks=>kvs.length < sizeLine/\D.nx τ (mup M3 a (.dT (jF kvs ks v)))
    | none=>False
   | _,_=>False
 | _=>False
theorem QL (tk:Bool) (hk:tk=true->yJ D.K) {tpos:Pos} (he:aT D e te) (ho:aT D o to) (hi:aT D i ti) (hs:∀ env,swapsWith e (some (.Subscript o i tpos)) pos.line env=pure false:=by intro _;rfl):pZ D (.Assign [.Subscript o i tpos] e pos) (Oj tk te to ti):=by
 obtain ⟨_,p1,s1⟩:=he;obtain ⟨_,p2,s2⟩:=ho;obtain ⟨_,p3,s3⟩:=hi;refine ⟨_,fun X h=>O0 (Og h.room) (p2 X h) (p3 X h) (p1 X h) (hs _),fun σ τ H M D' rs rm h EE d=>?_⟩;refine s1 σ τ H M _ rs rm h _ fun v vv M1 H1 st1 rm1 rv h1=>?_;refine s2 σ τ H1 M1 _ (rs.stp st1) rm1 h1 _ fun x vx M2 H2 cO rm2 rx h2=>?_;refine s3 σ τ H2 M2 _ ((rs.stp st1).stp cO) rm2 h2 _ fun y vy M3 H3 st3 rm3 ry h3=>?_;have rv3:=(rv.stp cO).stp st3;have rs3:=((rs.stp st1).stp cO).stp st3
 cases x with
 | ref a =>
  cases (rx.stp st3).ref
  cases tk with
  | false =>
   dsimp only at h3;split at h3
   ·rename_i kvs k e1 e2
    obtain ⟨hl,q⟩:=h3;obtain ⟨ws,hv,r⟩:=rm3 a _ e1
    have:=Af ry e2
    subst this;have st4:aQ H3 M3 (upd H3 a (.dK (putK ws k vv))) (mup M3 a (.dK (jF kvs k v))):=aQ.write e1;have rnew:RelM D.K (upd H3 a (.dK (putK ws k vv))) (mup M3 a (.dK (jF kvs k v))):=rm3.put st4 ⟨_,bY,(r.put k rv3).stp st4⟩;exact ⟨a,_,rfl,.k hv (by rw [<- r.length];exact hl),d.nx _ _ _ _ (((st1.trans cO).trans st3).trans st4) rnew (rs3.stp st4) q⟩
   ·exact h3.elim
  | true =>
   dsimp only at h3;split at h3
   ·rename_i kvs ys e1
    split at h3
    ·rename_i ks e2
     obtain ⟨hl,q⟩:=h3;obtain ⟨ws,hv,r⟩:=rm3 a _ e1;obtain ⟨b,rfl,hb⟩:=GZ (hk rfl) ry e2;have st4:aQ H3 M3 (upd H3 a (.dT (putK ws ks vv))) (mup M3 a (.dT (jF kvs ks v))):=aQ.write e1;have rnew:RelM D.K (upd H3 a (.dT (putK ws ks vv))) (mup M3 a (.dT (jF kvs ks v))):=rm3.put st4 ⟨_,bY,(r.put ks rv3).stp st4⟩;exact ⟨a,_,rfl,.t hv hb (by rw [<- r.length];exact hl),d.nx _ _ _ _ (((st1.trans cO).trans st3).trans st4) rnew (rs3.stp st4) q⟩
    ·exact h3.elim
   ·exact h3.elim
 | _=>exact h3.elim
end
abbrev HR (qual:Str) (scope:Scope) (L f c:Addr) (cl:List (Str × Addr)):Env:=PySem.W.envX qual scope L f (.ref c) cl
def Dx (P:Program) (w:World) (K:PySem.W.Frag) (mg:Str->Option Value) (base:Heap) (N:List Str) (qual:Str) (scope:Scope) (f c:Addr) (cl:List (Str × Addr)) (A:Around) (outer:List Env) (s:Shared) (H:Hp):Cx where
 prog:=P
 w:=w
 K:=K
 mg:=mg
 base:=base
 A:=A.deeper (HR qual scope s.heap.objs.size f c cl)
 N:=N
 s₀:=s
 H₀:=H
 env:=HR qual scope s.heap.objs.size f c cl
 outer:=outer
 stack:=HR qual scope s.heap.objs.size f c cl :: outer
 ex:=[]
 calm:=true
 fn:=fun _=>false
 pn:=[]
 xe:=fun _ _=>False
structure DH (N ps:List Str) (sc:Scope):Prop where
 kind:sc.kind=.function
 co:sc.isCoroutine=false
 gen:sc.isGenerator=false
 nd:N.Nodup
 pre:N.take ps.length=ps
 par:∀ x∈ps,sc.names.lookup x=some .local
 cells:∀ y∈sc.names,y.2≠.cell
 cap:∀ x∈N.drop ps.length,sc.names.lookup x=some .free
theorem Av:∀ {ps:List Str} {us:List Value} {i:Nat} {x:Str} {u:Value},ps.Nodup->ps[i]?=some x->us[i]?=some u->(ps.zip us).reverse.lookup x=some u
 | [],_,i,_,_,_,h,_=>by simp at h
 | _ :: _,[],i,_,_,_,_,h=>by simp at h
 | p :: ps,v :: us,i,x,u,nd,h1,h2=>by
  rw [List.zip_cons_cons,List.reverse_cons,List.lookup_append]
  cases i with
  | zero =>
   have e1:p=x:=by simpa using h1
   have e2:v=u:=by simpa using h2
   subst e1;subst e2
   have hn:(ps.zip us).reverse.lookup p=none:=by
    rw [List.lookup_eq_none_iff];intro q hq;have hq':=List.mem_reverse.mp hq
    have:=(List.of_mem_zip hq').1
    have hne:p≠q.1:=fun z=>(List.nodup_cons.mp nd).1 (by rw [z];exact this)
    simpa using hne
   rw [hn]
   simp [List.lookup_cons]
  | succ i =>
   have:=Av (i:=i) (x:=x) (u:=u) (List.nodup_cons.mp nd).2 (by simpa using h1) (by simpa using h2)
   rw [this];rfl
variable {params:Arguments} {body:Expr} {scope:Scope} {ps:List Str} {sp:Sp}
theorem SE {P:Program} {w:World} {mg:Str->Option Value} {base:Heap} {k:Nat} {fl c:Addr} {name qual:Str} {cl:List (Str × Addr)} {pm ctv:Value} {N:List Str} {caps:List (Option V)}
  (ho:base.get? fl=some (PySem.W.kla_obj name qual params body scope cl pm c ctv)) (hc:base.CodeRec (.ref c) qual) (S:DH N ps scope)
  (inj:∀ x y a,cl.lookup x=some a->cl.lookup y=some a->x=y) (has:∀ x,scope.names.lookup x=some .free->∃ a,cl.lookup x=some a) (cel:∀ x a,cl.lookup x=some a->∃ v,base.IsCell a v)
  (cap:∀ (j:Nat) x v,N[ps.length + j]?=some x->caps[j]?=some (some v)->∃ a u,cl.lookup x=some a/\base.IsCell a (some u)/\RelV v u) (hlN:N.length=ps.length + caps.length)
  (len:∀ vs H Q E,sp vs H Q E->vs.length=ps.length)
  (hbody:∀ (A:Around) (outer:List Env) (s:Shared) (H:Hp) (vs:List V) (Q:VK) (E:XK),cV k (A.deeper (HR qual scope s.heap.objs.size fl c cl))->sp vs H Q E ->
   ∃ t,PE (Dx P w K mg base N qual scope fl c cl A outer s H) body t/\t (vs.map some++caps) H Q) :
  fY P w K mg base mB (k + 1) fl (PySem.W.kla_fn name qual params body scope cl pm (.ref c) ctv) ps sp:=by
 refine ⟨len,fun A outer s H args us vs Q E hr e0 hb r hsp=>?_⟩;have hl:=len _ _ _ _ hsp;have lim:s.heap.NoLimit:=e0.mod.nolimit.keeps fun b o e=>(e0.bs b o e).1;have hloc:∀ y∈ps.zip us,scope.names.lookup y.1=some .local:=fun ⟨n,v⟩ hy=>S.par n (List.of_mem_zip hy).1;refine PySem.W.kla_callFunE hr.depth (e0.bs _ _ ho).1 rfl S.co S.gen rfl (hc.keeps fun b o e=>(e0.bs b o e).1) (hb _ _ _ _ ?_);refine wpAny_newFunctionEnv S.cells hloc (fun h₁ hns hsb=>⟨lim.fresh _ hsb,PySem.W.kla_codeExpr ?_⟩) S.kind;have keep:∀ b o,s.heap.get? b=some o->h₁.get? b=some o:=fun b o e=>hsb.extBut b o (Nat.ne_of_lt (Heap.lt_size e)) (Heap.get?_push_of_some _ e);obtain ⟨t,ht,hq⟩:=hbody A outer s H vs Q E (hr.deeper _) hsp
 have I:L2.Inv (Dx P w K mg base N qual scope fl c cl A outer s H) [] (vs.map some++caps) H { s with heap:=h₁,toks:=s.toks + (ps.zip us).length }:=by
  have noA:∀ b:Addr,b ∉ (Dx P w K mg base N qual scope fl c cl A outer s H).ex:=fun b z=>absurd (show b∈([]:List Addr) from z) (by simp)
  refine ⟨⟨e0.mod,S.kind,rfl,rfl,Nat.le_refl _,inj,fun y hy=>?_,fun y a z=>(by cases z),fun _=>hr.hd,Around.frames_deeper e0.frames,.inr ⟨rfl,rfl⟩,fun b z=>absurd z (noA b),e0.bs,e0.bsz,fun b _ _=>noA b,fun b z=>absurd z (noA b),e0.funs,e0.frf⟩,
   rfl,e0.bare,Un.kept keep,⟨_,hns,fun i y v h1 h2 h3=>?_⟩,fun y a h=>?_,e0.hok.fresh (Nat.le_refl _),fun y a h=>?_,fun p hp=>absurd (show p∈([]:List (Addr × Obj)) from hp) (by simp),e0.hok.kept keep,?_⟩
  ·have hy:scope.names.lookup y=some .cell\/scope.names.lookup y=some .free:=hy
   rcases hy with hy | hy
   ·exact absurd rfl (S.cells _ (PySem.mem_of_lookup hy))
   ·exact has y hy
  ·have hlen:(vs.map some).length=ps.length:=by rw [List.length_map,hl]
   by_cases hi:i < ps.length
   ·have ha:vs[i]?=some v:=by
     rw [List.getElem?_append_left (by rw [hlen];exact hi),List.getElem?_map] at h2
     cases e:vs[i]? with
     | none=>rw [e] at h2;cases h2
     | some a=>rw [e] at h2;cases h2;rfl
    obtain ⟨u,hu,rv⟩:=r.get ha;have hp:ps[i]?=some y:=by rw [<- S.pre,List.getElem?_take_of_lt hi];exact h1
    have ndP:ps.Nodup:=by rw [<- S.pre];exact S.nd.sublist (List.take_sublist _ _)
    exact ⟨u,rv,.inl ⟨S.par y (List.mem_of_getElem? hp),Av ndP hp hu⟩⟩
   ·obtain ⟨j,rfl⟩:∃ j,i=ps.length + j:=⟨i - ps.length,by omega⟩
    rw [List.getElem?_append_right (by rw [hlen];omega),hlen,Nat.add_sub_cancel_left] at h2;obtain ⟨a,u,e1,e2,e3⟩:=cap j y v h1 h2;have hk:scope.names.lookup y=some .free:=S.cap y (List.mem_of_getElem? (i:=j) (by rw [List.getElem?_drop];exact h1));exact ⟨u,e3,.inr ⟨.inr hk,a,e1,e2.keeps fun b o e=>keep b o (e0.bs b o e).1⟩⟩
  ·obtain ⟨v,hv⟩:=cel y a h
   exact ⟨v,hv.keeps fun b o e=>keep b o (e0.bs b o e).1⟩
  ·obtain ⟨v,o,hv,_⟩:=cel y a h
   exact (e0.bs _ _ hv).2
  ·rw [List.length_append,List.length_map,hl];exact hlN.symm
 refine wpAny_mono (ht [] _ _ H Q I hq) (fun u s' hs=>?_) fun e s' hs=>hs.elim;obtain ⟨v,H',J,rv,q⟩:=hs;exact ⟨v,H',J.os,J.bare,J.base,J.hok,rv,q⟩
structure Kd where
 params:Arguments
 body:Expr
 scope:Scope
def Dp (X:Cx) (s:Shared) (H:Hp) (M:aG) (q:Str) (l:Kd) (fl:Addr):Prop :=
 ∃ cl pm ctv c oc vs t,closureFor l.scope X.env=pure cl/\(s.heap.get? fl=some (PySem.W.kla_obj "<lambda>" q l.params l.body l.scope cl pm c ctv)/\H fl=none/\fl≠X.env.locals/\fl ∉ X.fs)/\H c=some (.frz oc (.own 0))/\M c=none/\oc.data=.fields vs/\vs[1]?=some (.str q t)
abbrev v5:=SU->aG->(List U->List Addr->aG->Prop)->Prop
def wI (D:Dat) (q:Str) (es:List Expr) (ls:List Kd) (t:v5):Prop :=
 ∀ X,mU D X->∀ (pos:Pos) (pins:List (Addr × Obj)) (s:Shared) (σ:L2.St) (H:Hp) (τ:SU) (M:aG) (Q:List U->List Addr->aG->Prop),L2.Inv X pins σ H s->dU D.K H M σ τ->RelM D.K H M->t τ M Q ->
  wpAny (model X.prog X.w) X.A (spliced (backTo pos (starEach es X.env))) (fun us s'=>∃ ws vs fs M' H',L2.Inv X pins σ H' s'/\Vals vs us/\aQ H M H' M'/\RelM D.K H' M'/\aI D.K H' M' ws vs/\Paired (Dp X s' H' M' q) ls fs/\Q ws fs M') X.xe s
def HS:v5:=fun _ M Q=>Q [] [] M
def DC (te:UE) (t:v5):v5:=fun τ M Q=>te τ M fun u M1=>t τ M1 fun us fs M2=>Q (u :: us) fs M2
def Hd (P:Addr) (q:Str) (t:v5):v5:=fun τ M Q=>M P=some (.tbl q)/\∀ fl,t τ M fun us fs M2=>Q (.ref fl :: us) (fl :: fs) M2
variable {q:Str}
theorem Rb {D:Dat}:wI D q [] [] HS:=fun X h pos pins s σ H τ M Q I rs rm ht=>Calls.spliced_nil ⟨[],[],[],M,H,I,.nil,aQ.refl H M,rm,.nil,.nil,ht⟩
variable {e:Expr} {es:List Expr} {ls:List Kd}
theorem OR {D:Dat} {te:UE} {t:v5} (ha:aT D e te) (hr:wI D q es ls t) (hs:∀ env,starEach (e :: es) env=(false,eval e env) :: starEach es env:=by intro _;rfl):wI D q (e :: es) ls (DC te t):=by
 obtain ⟨t0,p,sim⟩:=ha;intro X h pos pins s σ H τ M Q I rs rm ht;rw [hs];show wpAny _ _ (spliced ((false,eval e X.env) :: backTo pos (starEach es X.env))) _ _ s;refine Calls.spliced_cons (bD (p X h pins s σ H (fun v H1=>∃ u M1,aQ H M H1 M1/\RelM D.K H1 M1/\aM D.K H1 M1 u v/\t τ M1 fun us fs M2=>Q (u :: us) fs M2) I (sim σ τ H M _ rs rm ht _ fun u v M1 H1 st rm1 ru q=>⟨u,M1,st,rm1,ru,q⟩)) fun uu s1 ⟨v,H1,I1,r1,u,M1,st,rm1,ru,q⟩=>?_)
 exact bD (hr X h pos pins s1 σ H1 τ M1 _ I1 (rs.stp st) rm1 q) fun us s2 ⟨ws,vs,fs,M2,H2,I2,rv,cO,rm2,rus,pl,q2⟩ =>
  ⟨u :: ws,v :: vs,fs,M2,H2,I2,.cons r1 rv,st.trans cO,rm2,.cons (ru.stp cO) rus,pl,q2⟩
def h9 (base:Heap) (mg:Str->Option Value):Prop:=∃ bm o,mg "__builtins__"=some (.ref bm)/\bm≠builtinsNs/\bm≠mainGlobals/\base.get? bm=some o/\o.cls=.type "module"/\o.dict=some builtinsNs/\o.data=.plain
variable {pos:Pos}
theorem IU {a b:Int} {c v:Value}:∀ (l:List Value),TriplesOk l->codeAmong pos (l++[rawInt a,rawInt b,c])=some v->codeAmong pos l=some v\/v=c:=fun l h=>by
 fun_induction TriplesOk l with
 | case1 =>
  intro e;simp only [List.nil_append,codeAmong,rawInt] at e;split at e
  ·cases e;exact .inr rfl
  ·cases e
 | case2 a' t b' u x rest ih =>
  intro e;simp only [List.cons_append,codeAmong] at e ⊢;split at e
  ·rename_i hc;rw [if_pos hc];exact .inl e
  ·rename_i hc;rw [if_neg hc];exact ih h e
 | case3 l h1 h2=>exact h.elim
variable {a:Addr} {X:Cx} {pins:List (Addr × Obj)} {σ:L2.St} {s:Shared} {o:Obj}
theorem Inv.addPin (I:L2.Inv X pins σ H s) (h:s.heap.get? a=some o/\H a=none/\a≠X.env.locals/\a ∉ X.fs/\∀ v,o.data≠.cell v):L2.Inv X ((a,o) :: pins) σ H s :=
 ⟨I.ok,I.os,I.bare,I.base,I.loc,I.cell,I.free,I.freeC,fun p hp=>by
  rcases List.mem_append.mp hp with hp | hp
  ·exact I.pin p (List.mem_append_left _ hp)
  ·rcases List.mem_cons.mp hp with rfl | hp
   ·exact h
   ·exact I.pin p (List.mem_append_right _ hp),I.hok,I.len⟩
theorem Inv.unPin (I:L2.Inv X ((a,o) :: pins) σ H s):L2.Inv X pins σ H s :=
 ⟨I.ok,I.os,I.bare,I.base,I.loc,I.cell,I.free,I.freeC,fun p hp=>I.pin p (by
  rcases List.mem_append.mp hp with hp | hp
  ·exact List.mem_append_left _ hp
  ·exact List.mem_append_right _ (List.mem_cons_of_mem _ hp)),I.hok,I.len⟩
variable {P:Addr}
theorem Jr {D:Dat} {t:v5} {lpos:Pos} {c0:Addr} (hK:PySem.W.codeHdIn D.K c0 P=true) (hB:h9 D.base D.mg) (hr:wI D q es ls t) (hcod:D.cod=.ref c0:=by rfl) (hq:D.qual++"<lambda>"=q:=by rfl)
  (hfree:∀ y∈scope.names,y.2=.free->D.sc.names.lookup y.1=some .cell\/D.sc.names.lookup y.1=some .free:=by first | decide +kernel | (dsimp only;decide +kernel)) (hs:∀ env,starEach (.Lambda params body scope lpos :: es) env=(false,eval (.Lambda params body scope lpos) env) :: starEach es env:=by intro _;rfl) (hdef:∀ env,defaultsOf params env=([],[]):=by intro _;rfl) :
  wI D q (.Lambda params body scope lpos :: es) (⟨params,body,scope⟩ :: ls) (Hd P q t):=by
 intro X h pos pins s σ H τ M Q I rs rm ⟨hMP,ht⟩;obtain ⟨huniq,ps,hHP,htr,hcodes⟩:=rm P _ hMP;have hPg:s.heap.get? P=some (PySem.W.tabObj ps):=I.hok P _ hHP;obtain ⟨e1,e2⟩:=h.cod (by rw [hcod];simp);rw [hcod] at e1;obtain ⟨cl,hclos,hcl,hcl2⟩:=vA (env:=X.env) (scope:=scope) (fun x hx e=>I.ok.has x.1 (by show X.env.scope.names.lookup _=_\/X.env.scope.names.lookup _=_;rw [h.sc];exact hfree x hx e));have C:PySem.W.CodeHd s.heap c0 P:=PySem.W.codeHd_of_K I.kIn (by rw [h.K];exact hK);have hg:s.heap.Ns mainGlobals X.mg:=I.mod.glob.keeps I.bk
 have sP:∀ b o,X.base.get? b=some o->b≠P:=fun b o e z=>by
  have:=(I.bs b o e).2
  rw [z,hHP] at this;cases this
 have hgP:mainGlobals≠P:=by
  obtain ⟨o,es,ep,e,_⟩:=I.mod.glob;exact sP _ _ e
 have hb:s.heap.BuiltinsAt X.mg P:=by
  obtain ⟨bm,o,b1,b2,b3,b4,b5⟩:=hB;rw [<- h.base] at b4;rw [<- h.mg] at b1;exact ⟨bm,o,b1,b2,b3,sP _ _ b4,I.bk _ _ b4,b5⟩
 rw [hs];show wpAny _ _ (spliced ((false,eval (.Lambda params body scope lpos) X.env) :: backTo pos (starEach es X.env))) _ _ s;refine Calls.spliced_cons (PySem.W.kla_eval (hdef _) ?_);rw [e2,hq]
 have done:∀ (H1:Hp) (s1:Shared) (fl c:Addr) (oc:Obj) (vs:Array Value) (tk:Tok) (pm ctv:Value),L2.Inv X pins σ H1 s1->s1.heap.get? fl=some (PySem.W.kla_obj "<lambda>" q params body scope cl pm c ctv)->H1 fl=none->fl≠X.env.locals->fl ∉ X.fs->aQ H M H1 M->RelM D.K H1 M->H1 c=some (.frz oc (.own 0))->M c=none->oc.data=.fields vs->vs[1]?=some (.str q tk) ->
   wpAny (model X.prog X.w) X.A (spliced (backTo pos (starEach es X.env))) (fun us s'=>∃ ws vs fs M' H',L2.Inv X pins σ H' s'/\Vals vs (.ref fl :: us)/\aQ H M H' M'/\RelM D.K H' M'/\aI D.K H' M' ws vs/\Paired (Dp X s' H' M' q) (⟨params,body,scope⟩ :: ls) fs/\Q ws fs M') X.xe s1:=by
  intro H1 s1 fl c oc vs tk pm ctv I1 hfl hH1 hne hnf st rm1 hc hMc hd hv;have Ip:=Inv.addPin I1 ⟨hfl,hH1,hne,hnf,fun v z=>by cases z⟩;refine bD (hr X h pos _ s1 σ H1 τ M _ Ip (rs.stp st) rm1 (ht fl)) fun us s2 ⟨ws,vs',fs,M2,H2,I2,rv,cO,rm2,rus,pl,q2⟩=>?_;obtain ⟨p1,p2,p3,p4,_⟩:=I2.pin (fl,_) (List.mem_append_right _ List.mem_cons_self);exact ⟨.ref fl :: ws,.ref fl :: vs',fl :: fs,M2,H2,Inv.unPin I2,.cons rfl rv,st.trans cO,rm2,.cons i6 rus,.cons ⟨cl,pm,ctv,c,oc,vs,tk,hclos,⟨p1,p2,p3,p4⟩,(cO.to hc hMc).1,(cO.to hc hMc).2,hd,hv⟩ pl,q2⟩
 have hLs:X.env.locals < s.heap.objs.size:=I.lt
 cases hf:codeAmong lpos ps.toList with
 | some cv =>
  obtain ⟨c,oc,vs,tk,rfl,hHc,hMc,hd,hv⟩:=hcodes _ _ hf;refine PySem.W.kla_makeFunctionHit (mg:=X.mg) hclos I.ok.glob hg e1 C hPg htr hf hb fun ctv h' tk' hk hsz=>?_
  have keep:∀ b o,s.heap.get? b=some o->(h'.push (PySem.W.kla_obj "<lambda>" q params body scope cl ((X.mg "__name__").getD .none) c ctv)).get? b=some o:=fun b o e=>Heap.get?_push_of_some _ (hk b o e)
  exact done H _ h'.objs.size c oc vs tk _ ctv (I.kept (t':=tk') keep) (Heap.get?_push_size _ rfl) (I.hok.fresh hsz) (Nat.ne_of_gt (Nat.lt_of_lt_of_le hLs hsz)) (I.nofs hsz) (aQ.refl H M) rm hHc hMc hd hv
 | none =>
  refine PySem.W.kla_makeFunction (mg:=X.mg) hclos I.ok.glob hg e1 C hPg htr hf hgP hb fun c ctv h' tk' hx hge hlt hrec htb=>?_;obtain ⟨c₂,oc,vs,tk,e2,hoc,hd,hv⟩:=hrec;cases e2;have hHc:H c=none:=I.hok.fresh hge;have hcP:c≠P:=fun z=>by rw [z,hHP] at hHc;cases hHc
  have hsz:s.heap.objs.size<=h'.objs.size:=by omega
  generalize hps:ps++#[rawInt lpos.line,rawInt lpos.col,.ref c]=ps' at htb
  generalize hobj:PySem.W.kla_obj "<lambda>" q params body scope cl ((X.mg "__name__").getD .none) c ctv=obj
  have keep:∀ b o,b≠P->s.heap.get? b=some o->(h'.push obj).get? b=some o:=fun b o n e=>Heap.get?_push_of_some _ (hx b o n e);have hH1c:upd (upd H c (.frz oc (.own 0))) P (.tbl ps') c=some (.frz oc (.own 0)):=by rw [bK hcP,bY]
  have hH1:∀ b,b≠P->b≠c->upd (upd H c (.frz oc (.own 0))) P (.tbl ps') b=H b:=fun b n1 n2=>by rw [bK n1,bK n2]
  have hH1P:upd (upd H c (.frz oc (.own 0))) P (.tbl ps') P=some (.tbl ps'):=bY;generalize hHH:upd (upd H c (.frz oc (.own 0))) P (.tbl ps')=H1 at hH1c hH1 hH1P;have nc:∀ b o,H b=some o->b≠c:=fun b o e z=>by rw [z,hHc] at e;cases e
  have lt:∀ b o,s.heap.get? b=some o->b≠c:=fun b o e=>Nat.ne_of_lt (Nat.lt_of_lt_of_le (Heap.lt_size e) hge)
  have un:Un X.fs [] H H1 s.heap (h'.push obj):=by
   refine ⟨fun b o e n _ _=>keep b o (fun z=>by rw [z,hHP] at n;cases n) e,fun b o e n _ _=>⟨o.slots,keep b o (fun z=>by rw [z,hHP] at n;cases n) e⟩,fun b o e n _=>?_,fun b o e _=>?_,fun b xs e=>?_,fun b o u e=>?_,fun b qs e=>?_⟩
   ·rw [hH1 b (fun z=>by rw [z,hHP] at n;cases n) (lt b o e)];exact n
   ·by_cases hbP:b=P
    ·subst hbP;exact ⟨_,Heap.get?_push_of_some _ htb⟩
    ·exact ⟨o,keep b o hbP e⟩
   ·rw [hH1 b (fun z=>by rw [z,hHP] at e;cases e) (nc b _ e)];exact e
   ·rw [hH1 b (fun z=>by rw [z,hHP] at e;cases e) (nc b _ e)];exact e
   ·by_cases hbP:b=P
    ·subst hbP
     rw [hHP] at e;cases e;exact ⟨_,by rw [hH1P,<- hps]⟩
    ·exact ⟨#[],by rw [hH1 b hbP (nc b _ e),e];simp⟩
  have hok:fD X.prog X.w H1 (h'.push obj):=by
   intro b o e
   by_cases hbP:b=P
   ·subst hbP;rw [hH1P] at e;cases e;exact Heap.get?_push_of_some _ htb
   ·by_cases hbc:b=c
    ·subst hbc;rw [hH1c] at e;cases e;exact ⟨Heap.get?_push_of_some _ hoc,_,Heap.get?_push_of_some _ hoc⟩
    ·rw [hH1 b hbP hbc] at e
     refine (I.hok b o e).stay (fun a u ha ea=>keep a u (fun z=>?_) ea) (fun a ea=>?_) (fun a xs ea=>?_)
     ·rcases ha with ha | ha
      ·exact hbP (ha.symm.trans z)
      ·rw [z,hHP] at ha;cases ha
     ·rw [hH1 a (fun z=>by rw [z,hHP] at ea;cases ea) (nc a _ ea)];exact ea
     ·rw [hH1 a (fun z=>by rw [z,hHP] at ea;cases ea) (nc a _ ea)];exact ea
  have hMc:M c=none:=rm.no hHc;have st:aQ H M H1 M:=.by' fun b o e m=>⟨by rw [hH1 b (fun z=>by rw [z,hMP] at m;cases m) (nc b o e)];exact e,m⟩
  have rm1:RelM D.K H1 M:=fun a mo e=>by
   by_cases haP:a=P
   ·subst haP
    rw [hMP] at e;cases e;refine ⟨huniq,ps',hH1P,by rw [<- hps];simpa using TriplesOk_snoc _ _ _ _ htr,fun pos' v hv'=>?_⟩;rw [<- hps] at hv';have hv2:codeAmong pos' (ps.toList++[rawInt lpos.line,rawInt lpos.col,.ref c])=some v:=by simpa using hv'
    rcases IU ps.toList htr hv2 with z | rfl
    ·obtain ⟨c',oc',vs',t',y1,y2,y3,y4⟩:=hcodes _ _ z
     exact ⟨c',oc',vs',t',y1,(st.to y2 y3).1,y3,y4⟩
    ·exact ⟨c,oc,vs,tk,rfl,hH1c,hMc,hd,hv⟩
   ·have hac:a≠c:=fun z=>by subst z;rw [hMc] at e;cases e
    exact (rm a mo e).stp (fun _ _ z=>z) st (hH1 a haP hac)
  have I1:=I.un (t':=tk') un hok;refine done H1 _ h'.objs.size c oc vs tk _ ctv I1 (by rw [<- hobj];exact Heap.get?_push_size _ rfl) (by rw [hH1 _ (Nat.ne_of_gt (Nat.lt_of_lt_of_le (Heap.lt_size hPg) hsz)) (Nat.ne_of_gt hlt)];exact I.hok.fresh hsz) (Nat.ne_of_gt (Nat.lt_of_lt_of_le hLs hsz)) (I.nofs hsz) st rm1 hH1c hMc hd hv
structure fM (P:Program) (w:World) (K:PySem.W.Frag) (mg:Str->Option Value) (base:Heap) (j:Nat) (f:Addr) (sp:bE):Prop where
 ex:∃ fd ps,fY P w K mg base mB j f fd ps (cP K sp)/\(PySem.W.keepIn K (.ref f)=true\/∃ o fd',base.get? f=some o/\o.data=.func fd')/\Binds K fd ps []
theorem KC {x:Str} {p:Pos} {i k:Nat} {f:Addr} {fd:FuncData} {t:TA} (hN:X.N[i]?=some x) (hv:GO X.env.scope x) (F:fY X.prog X.w X.K X.mg X.base mB k f fd ps sp) (hr:cV k X.A) (hk:PySem.W.keepIn X.K (.ref f)=true\/∃ o fd',X.base.get? f=some o/\o.data=.func fd') (hb:Binds X.K fd ps [])
  (ha:PA X (e :: es) t) (hd:(x == ("__debug__":Str))=false) (hcd:(x == ("__classdict__":Str))=false) (he:starEach (e :: es) X.env=(false,eval e X.env) :: starEach es X.env) (hpl:(backTo pos (starEach es X.env)).any (·.1)=false) :
  PE X (.Call (.Name x p) (e :: es) [] pos) (Jk i f sp t):=by
 intro pins s σ H Q I h;refine wpAny_Call_Name_kw (bD (Kt (i:=i) hN hv hd hcd pins s σ H _ I h) fun v s1 ⟨x',H1,I1,r1,e1,q1⟩=>?_);subst e1;cases r1
 rcases hk with hk | ⟨o,fd',ho,hof⟩
 ·refine PySem.W.callWith_K (h₀:=X.base) I1.ok.mod.kin hk (bD (ha pos pins s1 σ H1 _ I1 q1) fun us s2 ⟨vs,H2,I2,r,q⟩=>⟨I2.kIn,?_⟩) he hpl
  exact AF (dvs:=[]) F hr hb .nil AV I2 r (by rw [List.append_nil];exact q)
 ·have ha':=ha pos pins s1 σ H1 _ I1 q1
  rw [he] at ha' ⊢;refine PySem.W.callWith_of (P:=fun h=>h.get? f=some o) (by show ((false || (backTo pos (starEach es X.env)).any (·.1)) || false)=false;rw [hpl];rfl) (fun h0 hh=>?_) (Calls.evalArgs_plain (bD ha' fun us s2 ⟨vs,H2,I2,r,q⟩=>⟨I2.bk _ _ ho,?_⟩))
  ·refine ⟨.frame,.inl rfl,(PySem.W.Looks.ld (part:=none) hh).andThen ?_⟩
   obtain ⟨oc,od,odt,osl⟩:=o
   have:odt=.func fd':=hof
   subst this;exact .now
  ·exact AF (dvs:=[]) F hr hb .nil AV I2 r (by rw [List.append_nil];exact q)
section
variable {D:Dat}
theorem EW (i:Nat) {x:Str} {p pos:Pos} {e:Expr} {es:List Expr} {j:Nat} {f:Addr} {sp:bE} {tas:UA} (F:fM D.prog D.w D.K D.mg D.base j f sp) (ha:mP D (e :: es) tas) (hN:D.N[i]?=some x:=by rfl) (hv:GO D.sc x:=by first | exact Or.inl rfl | exact Or.inr (Or.inl rfl) | exact Or.inr (Or.inr rfl))
  (hj:j<=D.k:=by first | exact Nat.le_refl _ | (dsimp only;omega) | omega | (dsimp only [bZ];omega)) (hd:(x == ("__debug__":Str))=false:=by decide) (hcd:(x == ("__classdict__":Str))=false:=by decide)
  (he:∀ env,starEach (e :: es) env=(false,eval e env) :: starEach es env:=by intro _;rfl) (hpl:∀ env,(backTo pos (starEach es env)).any (·.1)=false:=by intro _;rfl):aT D (.Call (.Name x p) (e :: es) [] pos) (rD i f sp tas):=by
 obtain ⟨fd,ps,F,kp,hb⟩:=F.ex;obtain ⟨t,q,s⟩:=ha;refine ⟨Jk i f (cP D.K sp) t,fun X h=>?_,fun σ τ H M Q' rs rm h Q c=>?_⟩
 ·have F':fY X.prog X.w X.K X.mg X.base mB j f fd ps (cP D.K sp):=by rw [h.prog,h.w,h.K,h.mg,h.base];exact F
  exact KC (by rw [h.N];exact hN) (by rw [h.sc];exact hv) F' (h.room.mono hj) (by rw [h.K,h.base];exact kp) (by rw [h.K];exact hb) (q X h) hd hcd (he _) (hpl _)
 ·refine F1 i σ τ H M _ rs rm h _ fun u v M1 H1 s1 rm1 ru h1=>?_
  obtain ⟨rfl,h1⟩:=h1;refine ⟨ru.ref,s σ τ H1 M1 _ (rs.stp s1) rm1 h1 _ fun us vs M2 H2 s2 rm2 rus h2=>?_⟩;exact ⟨us,M2,Q',rm2,rus,h2,c9.stp c (s1.trans s2)⟩
end
def E7 (H:Hp) (M:aG) (H1:Hp) (M1:aG):Prop:=∀ b o,H b=some o->M b=none->(∀ oc,o≠.frz oc (.own 0))->(∀ ps,o≠.tbl ps)->H1 b=some o/\M1 b=none
mutual
theorem aM.stq {K:PySem.W.Frag} {H H1:Hp} {M M1:aG} (st:E7 H M H1 M1):∀ {u:U} {v:V},aM K H M u v->aM K H1 M1 u v
 | .non,_,h=>by simpa only [aM] using h
 | .bl _,_,h=>by simpa only [aM] using h
 | .int _,_,h=>by simpa only [aM] using h
 | .str _,_,h=>by simpa only [aM] using h
 | .ty _,_,h=>by simpa only [aM] using h
 | .ref _,_,h=>by simpa only [aM] using h
 | .tup us,_,h=>by
  simp only [aM] at h ⊢;obtain ⟨a,vs,e,h1,h2⟩:=h;refine ⟨a,vs,e,?_,aI.stq st h2⟩;obtain ⟨m,r⟩:=h1;have q:=st a _ r m (by simp) (by simp);exact ⟨q.2,q.1⟩
 | .dic ks tk us,_,h=>by
  simp only [aM] at h ⊢;obtain ⟨a,vs,e,m,h1,h2⟩:=h;refine ⟨a,vs,e,?_,?_,aI.stq st h2⟩
  ·cases tk with
   | true=>obtain ⟨ws,e | ⟨o,e⟩,r⟩:=h1 <;> exact (st a _ e m (by intro oc z;cases z) (by simp)).2
   | false=>obtain ⟨ws,e | ⟨o,e⟩,r⟩:=h1 <;> exact (st a _ e m (by intro oc z;cases z) (by simp)).2
  ·cases tk with
   | true=>obtain ⟨ws,e | ⟨o,e⟩,r⟩:=h1;exact ⟨ws,.inl (st a _ e m (by simp) (by simp)).1,r⟩;exact ⟨ws,.inr ⟨o,(st a _ e m (by intro oc z;cases z) (by simp)).1⟩,r⟩
   | false=>obtain ⟨ws,e | ⟨o,e⟩,r⟩:=h1;exact ⟨ws,.inl (st a _ e m (by simp) (by simp)).1,r⟩;exact ⟨ws,.inr ⟨o,(st a _ e m (by intro oc z;cases z) (by simp)).1⟩,r⟩
 | .lst us,_,h=>by
  simp only [aM] at h ⊢;obtain ⟨a,vs,e,h1,h2⟩:=h;refine ⟨a,vs,e,?_,aI.stq st h2⟩
  rcases h1 with ⟨m,r⟩ | k
  ·rcases r with r | ⟨o,r⟩
   ·have q:=st a _ r m (by simp) (by simp)
    exact .inl ⟨q.2,.inl q.1⟩
   ·have q:=st a _ r m (by intro oc z;cases z) (by simp)
    exact .inl ⟨q.2,.inr ⟨o,q.1⟩⟩
  ·exact .inr k
theorem aI.stq {K:PySem.W.Frag} {H H1:Hp} {M M1:aG} (st:E7 H M H1 M1):∀ {us:List U} {vs:List V},aI K H M us vs->aI K H1 M1 us vs
 | [],_,h=>by simpa only [aI] using h
 | u :: us,_,h=>by
  simp only [aI] at h ⊢;obtain ⟨v,vs',e,h1,h2⟩:=h;exact ⟨v,vs',e,aM.stq st h1,aI.stq st h2⟩
end
theorem bI.stq {κ:Type} {K:PySem.W.Frag} {H H1:Hp} {M M1:aG} (st:E7 H M H1 M1):∀ {us:List (κ × U)} {vs:List (κ × V)},bI K H M us vs->bI K H1 M1 us vs
 | _,_,.nil=>.nil
 | _,_,.cons h t=>.cons ⟨h.1,h.2.stq st⟩ (bI.stq st t)
def eJ (q:Str) (o:Option HO):Prop:=∃ oc vs t,o=some (.frz oc (.own 0))/\oc.data=.fields vs/\vs[1]?=some (.str q t)
open Classical in
noncomputable def kQ (q:Str) (H:Hp):Hp:=fun b=>if eJ q (H b) then none else H b
open Classical in
noncomputable def oK (q:Str) (H H2:Hp):Hp:=fun b=>if eJ q (H b) then H b else H2 b
def jZ (M:aG) (a:Addr):aG:=fun b=>if b=a then none else M b
theorem mV:jZ M a a=none:=by unfold jZ;rw [if_pos rfl]
variable {b:Addr}
theorem lC (h:b≠a):jZ M a b=M b:=by unfold jZ;rw [if_neg h]
theorem sJ (h:eJ q (H b)):kQ q H b=none:=by unfold kQ;exact if_pos h
theorem cS (h:¬ eJ q (H b)):kQ q H b=H b:=by unfold kQ;exact if_neg h
variable {H2:Hp}
theorem wZ (h:eJ q (H b)):oK q H H2 b=H b:=by unfold oK;exact if_pos h
theorem cT (h:¬ eJ q (H b)):oK q H H2 b=H2 b:=by unfold oK;exact if_neg h
variable {o:HO}
theorem dR (h:eJ q (some o)):∃ oc,o=.frz oc (.own 0):=by
 obtain ⟨oc,_,_,e,_⟩:=h;cases e;exact ⟨oc,rfl⟩
theorem AB:¬ eJ q none:=fun ⟨_,_,_,e,_⟩=>by cases e
theorem QK {q':Str} {oc:Obj} {vs:Array Value} {t:Tok} (hd:oc.data=.fields vs) (hv:vs[1]?=some (.str q' t)) (h:eJ q (some (.frz oc (.own 0)))):q=q':=by
 obtain ⟨oc',vs',t',e,h1,h2⟩:=h;cases e;rw [hd] at h1;cases h1;rw [hv] at h2;cases h2;rfl
theorem Kb (h:kQ q H b=some o):H b=some o/\¬ eJ q (H b):=by
 by_cases hc:eJ q (H b)
 ·rw [sJ hc] at h;cases h
 ·rw [cS hc] at h;exact ⟨h,hc⟩
theorem OQ (rm:RelM K H M) (hP:M P=some (.tbl q)):E7 H M (kQ q H) (jZ M P)/\RelM K (kQ q H) (jZ M P):=by
 have sq:E7 H M (kQ q H) (jZ M P):=fun b o e m n1 n2=>by
  refine ⟨?_,?_⟩
  ·rw [cS (fun z=>by rw [e] at z;obtain ⟨oc,z⟩:=dR z;exact n1 oc z)];exact e
  ·by_cases hb:b=P
   ·rw [hb,mV]
   ·rw [lC hb];exact m
 refine ⟨sq,fun a mo e=>?_⟩;have ha:a≠P:=fun z=>by rw [z,mV] at e;cases e
 rw [lC ha] at e;have h:=rm a mo e
 cases mo with
 | lst us=>obtain ⟨vs,x,y⟩:=h;exact ⟨vs,by rw [cS (fun z=>by rw [x] at z;obtain ⟨oc,z⟩:=dR z;cases z)];exact x,y.stq sq⟩
 | dK us=>obtain ⟨vs,x,y⟩:=h;exact ⟨vs,by rw [cS (fun z=>by rw [x] at z;obtain ⟨oc,z⟩:=dR z;cases z)];exact x,y.stq sq⟩
 | dT us=>obtain ⟨vs,x,y⟩:=h;exact ⟨vs,by rw [cS (fun z=>by rw [x] at z;obtain ⟨oc,z⟩:=dR z;cases z)];exact x,y.stq sq⟩
 | dN us=>obtain ⟨vs,x,y⟩:=h;exact ⟨vs,by rw [cS (fun z=>by rw [x] at z;obtain ⟨oc,z⟩:=dR z;cases z)];exact x,y.stq sq⟩
 | ins C dx us=>obtain ⟨vs,x,y⟩:=h;exact ⟨vs,by rw [cS (fun z=>by rw [x] at z;obtain ⟨oc,z⟩:=dR z;cases z)];exact x,y.stq sq⟩
 | cap ps vs us=>exact ⟨by rw [cS (fun z=>by rw [h.1] at z;obtain ⟨oc,z⟩:=dR z;cases z)];exact h.1,h.2.stq sq⟩
 | tbl q' =>
  obtain ⟨un,ps,x,y,z⟩:=h;have hq:q'≠q:=fun w=>by subst w;exact ha (un P hP).symm
  refine ⟨fun b hb=>un b (by by_cases hbP:b=P;rw [hbP,mV] at hb;cases hb;rw [lC hbP] at hb;exact hb),ps,by rw [cS (fun z=>by rw [x] at z;obtain ⟨oc,z⟩:=dR z;cases z)];exact x,y,fun pos c hc=>?_⟩;obtain ⟨c',oc,vs,t,h1,h2,h3,h4,h5⟩:=z pos c hc;refine ⟨c',oc,vs,t,h1,?_,?_,h4,h5⟩
  ·rw [cS (fun z=>by rw [h2] at z;exact hq (QK h4 h5 z).symm)];exact h2
  ·by_cases hb:c'=P
   ·rw [hb,mV]
   ·rw [lC hb];exact h3
theorem OO {M2:aG} (rm:RelM K H M) (hP:M P=some (.tbl q)) (st:aQ (kQ q H) (jZ M P) H2 M2) (rm2:RelM K H2 M2) (hn:∀ b,eJ q (H b)->H2 b=none) (hu:∀ b,M2 b=some (.tbl q)->b=P) :
  aQ H M (oK q H H2) (mup M2 P (.tbl q))/\E7 H2 M2 (oK q H H2) (mup M2 P (.tbl q))/\RelM K (oK q H H2) (mup M2 P (.tbl q)):=by
 obtain ⟨un,ps,hHP,htr,hcodes⟩:=rm P _ hP;have nP:¬ eJ q (H P):=fun z=>by rw [hHP] at z;obtain ⟨oc,z⟩:=dR z;cases z
 obtain ⟨h2P,m2P⟩:=st.to (b:=P) (o:=.tbl ps) (by rw [cS nP];exact hHP) mV
 have S1:aQ H M (oK q H H2) (mup M2 P (.tbl q)):=fun b o e m=>by
  have hb:b≠P:=fun z=>by rw [z,hP] at m;cases m
  by_cases hc:eJ q (H b)
  ·exact ⟨.inl (by rw [wZ hc];exact e),by rw [aF hb];exact rm2.no (hn b hc)⟩
  ·obtain ⟨a1,a2⟩:=st b o (by rw [cS hc];exact e) (by rw [lC hb];exact m)
   exact ⟨by rw [cT hc];exact a1,by rw [aF hb];exact a2⟩
 have S2:E7 H2 M2 (oK q H H2) (mup M2 P (.tbl q)):=fun b o e m n1 n2=>by
  have hb:b≠P:=fun z=>by rw [z,h2P] at e;cases e;exact n2 ps rfl
  have hc:¬ eJ q (H b):=fun z=>by rw [hn b z] at e;cases e
  exact ⟨by rw [cT hc];exact e,by rw [aF hb];exact m⟩
 refine ⟨S1,S2,fun a mo e=>?_⟩
 by_cases ha:a=P
 ·subst ha
  rw [aD] at e;cases e;refine ⟨fun b hb=>?_,ps,by rw [cT nP];exact h2P,htr,fun pos c hc=>?_⟩
  ·by_cases hba:b=a
   ·exact hba
   ·rw [aF hba] at hb;exact hu b hb
  ·obtain ⟨c',oc,vs,t,h1,h2,h3,h4⟩:=hcodes pos c hc
   obtain ⟨a1,a2⟩:=S1.to h2 h3;exact ⟨c',oc,vs,t,h1,a1,a2,h4⟩
 ·rw [aF ha] at e
  have h:=rm2 a mo e;obtain ⟨o,ho⟩:=rm2.ex e;have hc:¬ eJ q (H a):=fun z=>by rw [hn a z] at ho;cases ho
  cases mo with
  | lst us=>obtain ⟨vs,x,y⟩:=h;exact ⟨vs,by rw [cT hc];exact x,y.stq S2⟩
  | dK us=>obtain ⟨vs,x,y⟩:=h;exact ⟨vs,by rw [cT hc];exact x,y.stq S2⟩
  | dT us=>obtain ⟨vs,x,y⟩:=h;exact ⟨vs,by rw [cT hc];exact x,y.stq S2⟩
  | dN us=>obtain ⟨vs,x,y⟩:=h;exact ⟨vs,by rw [cT hc];exact x,y.stq S2⟩
  | ins C dx us=>obtain ⟨vs,x,y⟩:=h;exact ⟨vs,by rw [cT hc];exact x,y.stq S2⟩
  | cap ps vs us=>exact ⟨by rw [cT hc];exact h.1,h.2.stq S2⟩
  | tbl q' =>
   obtain ⟨un',ps',x,y,z⟩:=h;have hqq:q'≠q:=fun w=>by subst w;exact ha (hu a e)
   refine ⟨fun b hb=>un' b (by by_cases hbP:b=P;subst hbP;rw [aD] at hb;exact absurd (by cases hb;rfl) hqq;rw [aF hbP] at hb;exact hb),ps',by rw [cT hc];exact x,y,fun pos c hcc=>?_⟩;obtain ⟨c',oc,vs,t,h1,h2,h3,h4⟩:=z pos c hcc;have hc':¬ eJ q (H c'):=fun z=>by rw [hn c' z] at h2;cases h2
   refine ⟨c',oc,vs,t,h1,by rw [cT hc'];exact h2,?_,h4⟩
   by_cases hb:c'=P
   ·rw [hb,h2P] at h2;cases h2
   ·rw [aF hb];exact h3
end U2
namespace U2
open PySem PySem.Spec PyProof.Rows L2
def T6 (n:Nat) (te:UE) (caps:SU):bE:=fun us M Q=>us.length=n/\te (us.map some++caps) M Q
structure vE where
 lam:Kd
 N:List Str
 ps:List Str
 ix:List Nat
 te:UE
def DG (D:Dat) (base:Heap) (k:Nat) (N:List Str) (sc:Scope):Dat:={ D with base:=base,N:=N,sc:=sc,k:=k,fn:=false,cod:=.none }
structure AJ (D:Dat) (k:Nat) (L:vE):Prop where
 sc:DH L.N L.ps L.lam.scope
 len:L.N.length=L.ps.length + L.ix.length
 ix:L.ix.map (fun i=>D.N[i]?)=(L.N.drop L.ps.length).map some
 free:∀ y∈L.lam.scope.names,y.2=.free->D.sc.names.lookup y.1=some .cell\/D.sc.names.lookup y.1=some .free
 cap:∀ x∈L.N.drop L.ps.length,D.sc.names.lookup x=some .cell\/D.sc.names.lookup x=some .free
 body:∀ base,h9 base D.mg->aT (DG D base k L.N L.lam.scope) L.lam.body L.te
 bind:∀ (q:Str) (cl:List (Str × Addr)) (pm cd ct:Value) (us:List Value),us.length=L.ps.length->bindArgs (PySem.W.kla_fn "<lambda>" q L.lam.params L.lam.body L.lam.scope cl pm cd ct) ⟨us,[]⟩=pure (L.ps.zip us)
def u9:U->Prop
 | .tup _=>False
 | .lst _=>False
 | .dic _ _ _=>False
 | _=>True
theorem aM.flat {K:PySem.W.Frag} {H H1:Hp} {M M1:aG} {u:U} {v:V} (h:u9 u) (r:aM K H M u v):aM K H1 M1 u v:=by
 cases u <;> first | exact h.elim | simpa only [aM] using r
def pH (L:vE) (τ:SU):SU:=L.ix.map fun i=>(τ[i]?).getD none
def p7 (L:vE) (τ:SU):bE:=T6 L.ps.length L.te (pH L τ)
def t8 (G:SU->List U->List Addr->aG->UK->Prop) (t:v5):UE:=fun τ M Q=>t τ M fun us fs M1=>G τ us fs M1 Q
theorem Mt {α:Type} {a b:α} (h:(pure a:Sem α)=pure b):a=b:=by
 have h':(Sem.pure a:Sem α)=Sem.pure b:=h
 injection h'
variable {x q:Str} {p pos:Pos} {e:Expr} {es:List Expr} {f P:Addr} {j:Nat}
open Classical in
theorem LY {D:Dat} {k:Nat} {Ls:List vE} {sp:List (Addr × bE)->bE} {t:v5} {G:SU->List U->List Addr->aG->UK->Prop} (hm:D.mg x=some (.ref f)) (hk:PySem.W.keepIn D.K (.ref f)=true)
  (F:∀ (base:Heap) (fs:List (Addr × bE)),fs.length=Ls.length->h9 base D.mg->(∀ l∈fs,fM D.prog D.w D.K D.mg base (k + 1) l.1 l.2)->Callee D.prog D.w D.K D.mg base j x (sp fs) [])
  (hG:∀ τ us fs M1 Q,fs.length=Ls.length->G τ us fs M1 Q->M1 P=some (.tbl q)/\(∀ L∈Ls,∀ u,some u∈pH L τ->u9 u) /\
   ((∀ b,jZ M1 P b≠some (.tbl q))->sp (fs.zip (Ls.map fun L=>p7 L τ)) us (jZ M1 P) fun u M2=>(∀ b,M2 b≠some (.tbl q))/\Q u (mup M2 P (.tbl q))))
  (hB:h9 D.base D.mg) (hL:∀ L∈Ls,AJ D k L) (ha:wI D q (e :: es) (Ls.map (·.lam)) t)
  (hj:j<=D.k:=by first | exact Nat.le_refl _ | (dsimp only;omega) | omega) (hfn:D.fn=true:=by rfl) (hg:D.sc.names.lookup x=some .globalImplicit:=by rfl) (hdb:(x == ("__debug__":Str))=false:=by decide)
  (he:∀ env,starEach (e :: es) env=(false,eval e env) :: starEach es env:=by intro _;rfl) (hpl:∀ env,(backTo pos (starEach es env)).any (·.1)=false:=by intro _;rfl):aT D (.Call (.Name x p) (e :: es) [] pos) (t8 G t):=by
 refine ⟨fun σ H Q=>∃ τ M Q',dU D.K H M σ τ/\RelM D.K H M/\t8 G t τ M Q'/\c9 D.K H M Q' Q,fun X h=>?_,fun σ τ H M Q' rs rm ht Q c=>⟨τ,M,Q',rs,rm,ht,c⟩⟩;intro pins s σ H Q I ⟨τ,M,Q',rs,rm,ht,cont⟩;refine wpAny_Call_Name_kw (yS I (by show X.env.scope.names.lookup x=_;rw [h.sc];exact hg) (by rw [h.mg];exact hm) ?_ hdb);refine PySem.W.callWith_K (h₀:=X.base) I.ok.mod.kin (by rw [h.K];exact hk) (bD (ha X h pos pins s σ H τ M _ I rs rm ht) fun us s1 ⟨ws,vs,fs,M1,H1,I1,rv,st1,rm1,rus,pl,q0⟩=>⟨I1.kIn,?_⟩) (he _) (hpl _);have hfl:fs.length=Ls.length:=by have:=Paired.length pl;rw [List.length_map] at this;exact this.symm
 obtain ⟨hMP,hflat,q1⟩:=hG _ _ _ _ _ hfl q0;obtain ⟨huniq,_⟩:=rm1 P _ hMP
 have hno:∀ b,jZ M1 P b≠some (.tbl q):=fun b z=>by
  by_cases hb:b=P
  ·rw [hb,mV] at z;cases z
  ·rw [lC hb] at z;exact hb (huniq b z)
 obtain ⟨sq,rmH⟩:=OQ rm1 hMP
 let Hh:Hp:=fun b=>if b∈jU X.stack then some (.own 0) else kQ q H1 b
 have hHh:∀ b,b ∉ jU X.stack->kQ q H1 b=none->Hh b=none:=fun b h1 h2=>by show (if b∈jU X.stack then some (.own 0) else kQ q H1 b)=none;rw [if_neg h1];exact h2
 have hHn:∀ b,Hh b=none->b ∉ jU X.stack/\kQ q H1 b=none:=fun b hb=>by
  have hb':(if b∈jU X.stack then some (HO.own 0) else kQ q H1 b)=none:=hb
  by_cases hm:b∈jU X.stack
  ·rw [if_pos hm] at hb';cases hb'
  ·rw [if_neg hm] at hb';exact ⟨hm,hb'⟩
 have nofr:∀ b o,X.base.get? b=some o->b ∉ jU X.stack:=fun b o e hb=>by
  have:=(I1.stack.mem hb).1
  rw [e] at this;cases this
 have hid0:∀ b,H1 b=none->kQ q H1 b=none:=fun b e=>by rw [cS (by rw [e];exact AB)];exact e
 have up:∀ b o,X.base.get? b=some o->(gK s1.heap Hh).get? b=some o:=fun b o e=>qW (I1.bk b o e) (hHh b (nofr b o e) (hid0 b (I1.bs b o e).2))
 have hBm:h9 (gK s1.heap Hh) D.mg:=by
  obtain ⟨bm,o,b1,b2,b3,b4,b5⟩:=hB;rw [<- h.base] at b4;exact ⟨bm,o,b1,b2,b3,up _ _ b4,b5⟩
 have e0:w9 X.prog X.w X.K X.mg (gK s1.heap Hh) X.A X.stack s1 (kQ q H1):=by
  have m:=I1.ok.mod;refine ⟨I1.ok.frames,⟨m.kin.keeps up,m.glob.keeps up,let ⟨mb,a,b⟩:=m.blt;⟨mb,a.keeps up,b⟩,m.nolimit.keeps up⟩,fun b o e=>?_,Nat.le_of_eq (Cz _ _),?_,fun b hb=>hid0 b (I1.stkFree b hb),fun b o e=>?_,I1.bare⟩
  ·obtain ⟨a,b2⟩:=BY e
   exact ⟨a,(hHn b b2).2⟩
  ·have:∀ l:List Env,(∀ b∈jU l,b∈jU X.stack)->s1.heap.FunFrames X.base l->s1.heap.FunFrames (gK s1.heap Hh) l:=by
    intro l
    induction l with
    | nil=>intro _ _;trivial
    | cons env rest ih =>
     intro hs ⟨hk,⟨L,o,hf,hn,ho,hd⟩,hr⟩;refine ⟨hk,⟨L,o,hf,?_,ho,hd⟩,ih (fun b hb=>hs b (by unfold jU at hb ⊢;rw [List.filterMap_cons,hf];exact List.mem_cons_of_mem _ hb)) hr⟩
     cases hq:(gK s1.heap Hh).get? L with
     | none=>rfl
     | some o'=>exact absurd (hs L (by unfold jU;rw [List.filterMap_cons,hf];exact List.mem_cons_self)) (hHn L (BY hq).2).1
   exact this X.stack (fun _ hb=>hb) I1.stack
  ·obtain ⟨e1,e2⟩:=Kb e
   refine (I1.hok b o e1).stay (fun _ _ _ z=>z) (fun a ea=>?_) (fun a xs ea=>?_)
   ·rw [cS (fun z=>by rw [ea] at z;obtain ⟨_,z⟩:=dR z;cases z)];exact ea
   ·rw [cS (fun z=>by rw [ea] at z;obtain ⟨_,z⟩:=dR z;cases z)];exact ea
 have one:∀ (L:vE) (fl:Addr),AJ D k L->Dp X s1 H1 M1 q L.lam fl->(∀ u,some u∈pH L τ->u9 u)->fM D.prog D.w D.K D.mg (gK s1.heap Hh) (k + 1) fl (p7 L τ):=by
  intro L fl ok la hfl;obtain ⟨cl,pm,ctv,c,oc,cvs,tk,hclos,⟨ho,hf0,hf1,hf2⟩,hc,hMc,hd,hv⟩:=la;obtain ⟨cl',hclos',hcl,hcl2⟩:=vA (env:=X.env) (scope:=L.lam.scope) (fun y hy e=>I1.ok.has y.1 (by show X.env.scope.names.lookup _=_\/X.env.scope.names.lookup _=_;rw [h.sc];exact ok.free y hy e));have ecl:cl'=cl:=Mt (hclos'.symm.trans hclos);subst ecl
  have nst:∀ b,b≠X.env.locals->b ∉ X.fs->b ∉ jU X.stack:=fun b n1 n2 hb=>by
   rcases List.mem_cons.mp (I1.stkSub b hb) with z | z
   ·exact n1 z
   ·exact n2 z
  have bfl:(gK s1.heap Hh).get? fl=some (PySem.W.kla_obj "<lambda>" q L.lam.params L.lam.body L.lam.scope cl' pm c ctv):=qW ho (hHh fl (nst fl hf1 hf2) (hid0 fl hf0))
  have hoc:s1.heap.get? c=some oc:=(I1.hok c _ hc).1;have bc:(gK s1.heap Hh).get? c=some oc:=qW hoc (hHh c (fun hb=>by rw [I1.stkFree c hb] at hc;cases hc) (sJ ⟨oc,cvs,tk,hc,hd,hv⟩))
  have hold:∀ y a,cl'.lookup y=some a->∀ o,s1.heap.get? a=some o->(gK s1.heap Hh).get? a=some o:=fun y a e o eo=>by
   have ec:=hcl y a e;refine qW eo (hHh a (nst a (I1.cne y a ec) (fun hb=>?_)) (hid0 a (I1.freeC y a ec)));have h1:=I1.ok.cab y a (h.fn hfn y) ec;obtain ⟨_,o',ho',_⟩:=I1.ok.funs.mem hb;exact absurd (Heap.lt_size ho') (Nat.not_lt.mpr h1)
  have cells:∀ y a v,cl'.lookup y=some a->s1.heap.IsCell a v->(gK s1.heap Hh).IsCell a v:=fun y a v e ⟨o,ho,hd⟩=>⟨o,hold y a e o ho,hd⟩;obtain ⟨m,hns,hloc⟩:=I1.loc
  refine ⟨PySem.W.kla_fn "<lambda>" q L.lam.params L.lam.body L.lam.scope cl' pm (.ref c) ctv,L.ps,?_,.inr ⟨_,_,bfl,rfl⟩,.all fun us hl=>ok.bind q cl' pm _ _ us hl⟩
  have capV:∃ caps:List (Option V),caps=L.ix.map (fun i=>(σ[i]?).getD none):=⟨_,rfl⟩;obtain ⟨caps,hcaps⟩:=capV;refine SE (N:=L.N) (caps:=caps) bfl ⟨c,oc,cvs,tk,rfl,bc,hd,hv⟩ ok.sc (fun y z a e1 e2=>I1.ok.inj y z a (hcl y a e1) (hcl z a e2)) (fun y hy=>hcl2 y (PySem.mem_of_lookup hy)) (fun y a e=>?_) (fun jj y v e1 e2=>?_) (by rw [hcaps,List.length_map];exact ok.len) (fun vs H Q E ⟨us,M,Q',_,r,hs,_⟩=>by rw [<- r.length];exact hs.1) ?_
  ·obtain ⟨v,hv⟩:=I1.cell y a (hcl y a e)
   exact ⟨v,cells y a v e hv⟩
  ·
   rw [hcaps,List.getElem?_map] at e2
   cases hi:L.ix[jj]? with
   | none=>rw [hi] at e2;cases e2
   | some i =>
    rw [hi] at e2;simp only [Option.map_some,Option.some.injEq] at e2
    have eN:D.N[i]?=some y:=by
     have h1:(L.ix.map fun i=>D.N[i]?)[jj]?=some (D.N[i]?):=by rw [List.getElem?_map,hi];rfl
     rw [ok.ix,List.getElem?_map,List.getElem?_drop,e1] at h1;exact (Option.some.inj h1).symm
    have eσ:σ[i]?=some (some v):=by
     cases hz:σ[i]? with
     | none=>rw [hz] at e2;cases e2
     | some o=>rw [hz] at e2;simp only [Option.getD_some] at e2;rw [e2]
    have hmem:y∈L.N.drop L.ps.length:=List.mem_of_getElem? (i:=jj) (by rw [List.getElem?_drop];exact e1);have hkind:=ok.cap y hmem;obtain ⟨u,ru,lk⟩:=hloc i y v (by rw [h.N];exact eN) eσ (by unfold GO;rw [h.sc];rcases hkind with z | z;exact .inr (.inl z);exact .inr (.inr z))
    rcases lk with ⟨k1,_⟩ | ⟨_,a,e3,e4⟩
    ·have k1':X.env.scope.names.lookup y=some .local:=k1
     rw [h.sc] at k1'
     rcases hkind with z | z <;> (rw [z] at k1';cases k1')
    ·obtain ⟨a',ea'⟩:=hcl2 y (PySem.mem_of_lookup (ok.sc.cap y hmem))
     have:a'=a:=by have:=hcl y a' ea';rw [e3] at this;cases this;rfl
     subst this;exact ⟨a',u,ea',cells y a' _ ea' e4,ru⟩
  ·intro A outer s2 H2 vs2 Q2 E2 hr ⟨us2,M2,Q2',rm2,rus2,⟨hl2,hte⟩,c2⟩
   obtain ⟨tb,pb,sb⟩:=ok.body (gK s1.heap Hh) hBm;refine ⟨tb,?_,?_⟩
   ·have hh:=pb (Dx X.prog X.w X.K X.mg (gK s1.heap Hh) L.N q L.lam.scope fl c cl' A outer s2 H2) ⟨h.prog,h.w,h.K,h.mg,rfl,rfl,rfl,hr,rfl,rfl,(fun z=>by cases z),(fun z=>absurd rfl z),(fun z=>by cases z)⟩
    rw [h.prog,h.w,h.K,h.mg] at hh;exact hh
   ·refine sb _ _ H2 M2 _ ?_ rm2 hte _ c2
    refine ⟨by rw [List.length_append,List.length_append,List.length_map,List.length_map,rus2.length,hcaps];unfold pH;rw [List.length_map,List.length_map],fun i u ei=>?_⟩;have hlv:vs2.length=us2.length:=rus2.length.symm
    by_cases hi:i < us2.length
    ·rw [List.getElem?_append_left (by rw [List.length_map];exact hi),List.getElem?_map] at ei
     cases hu:us2[i]? with
     | none=>rw [hu] at ei;cases ei
     | some u' =>
      rw [hu] at ei;simp only [Option.map_some,Option.some.injEq] at ei;subst ei;obtain ⟨v,hv,rv⟩:=rus2.get hu;exact ⟨v,by rw [List.getElem?_append_left (by rw [List.length_map,hlv];exact hi),List.getElem?_map,hv];rfl,rv⟩
    ·rw [List.getElem?_append_right (by rw [List.length_map];omega),List.length_map] at ei
     have hin:some u∈pH L τ:=List.mem_of_getElem? ei;have hf:=hfl u hin;unfold pH at ei;rw [List.getElem?_map] at ei
     cases hj:L.ix[i - us2.length]? with
     | none=>rw [hj] at ei;cases ei
     | some i' =>
      rw [hj] at ei;simp only [Option.map_some,Option.some.injEq] at ei
      have eτ:τ[i']?=some (some u):=by
       cases hz:τ[i']? with
       | none=>rw [hz] at ei;cases ei
       | some o=>rw [hz] at ei;simp only [Option.getD_some] at ei;rw [ei]
      obtain ⟨v,hv,rv⟩:=rs.2 i' u eτ;refine ⟨v,?_,aM.flat hf rv⟩;rw [List.getElem?_append_right (by rw [List.length_map,hlv];omega),List.length_map,hlv,hcaps,List.getElem?_map,hj];simp only [Option.map_some,hv,Option.getD_some]
 have lams:∀ l∈fs.zip (Ls.map fun L=>p7 L τ),fM D.prog D.w D.K D.mg (gK s1.heap Hh) (k + 1) l.1 l.2:=by
  have:∀ (Ls:List vE) (fs:List Addr),(∀ L∈Ls,AJ D k L)->(∀ L∈Ls,∀ u,some u∈pH L τ->u9 u)->Paired (Dp X s1 H1 M1 q) (Ls.map (·.lam)) fs->∀ l∈fs.zip (Ls.map fun L=>p7 L τ),fM D.prog D.w D.K D.mg (gK s1.heap Hh) (k + 1) l.1 l.2:=by
   intro Ls
   induction Ls with
   | nil=>intro fs _ _ p l hl;simp at hl
   | cons L Ls ih =>
    intro fs ok fl p l hl;rw [List.map_cons] at p
    cases p with
    | cons h1 h2 =>
     rw [List.map_cons,List.zip_cons_cons] at hl
     rcases List.mem_cons.mp hl with rfl | hl
     ·exact one L _ (ok L List.mem_cons_self) h1 (fl L List.mem_cons_self)
     ·exact ih _ (fun L hL=>ok L (List.mem_cons_of_mem _ hL)) (fun L hL=>fl L (List.mem_cons_of_mem _ hL)) h2 l hl
  exact this Ls fs hL hflat pl
 obtain ⟨f',fd,ps,dvs,ds,FF,hm',_,hb',hvd,hrd⟩:=(F _ _ (by rw [List.length_zip,List.length_map,hfl];exact Nat.min_self _) hBm lams).ex;rw [hm] at hm';cases hm';have edv:dvs=[]:=(hrd (fun _=>none) (fun _=>none)).inv_nil;subst edv;cases hvd;have FF':fY X.prog X.w X.K X.mg (gK s1.heap Hh) mB j f fd ps (cP D.K (sp (fs.zip (Ls.map fun L=>p7 L τ)))):=by rw [h.prog,h.w,h.K,h.mg];exact FF
 have hsp:cP D.K (sp (fs.zip (Ls.map fun L=>p7 L τ))) vs (kQ q H1) (fun v H2=>(∀ b,eJ q (H1 b)->H2 b=none)->Q v (oK q H1 H2)) E0:=by
  refine ⟨ws,jZ M1 P,_,rmH,rus.stq sq,q1 hno,fun u v M2 H2 cO rm2 ru2 ⟨hn2,q2⟩ hcn=>?_⟩;obtain ⟨S1,S2,rm3⟩:=OO rm1 hMP cO rm2 hcn (fun b z=>absurd z (hn2 b));exact cont u v _ _ (st1.trans S1) rm3 (ru2.stq S2) q2
 have hl:us.length=ps.length:=by rw [<- rv.length];exact FF'.len _ _ _ _ hsp
 have hbK:Binds X.K fd ps []:=by rw [h.K];exact hb'
 have hbs:=hbK s1 us I1.kIn (by rw [List.append_nil];exact hl);rw [List.append_nil] at hbs;refine wpAny_call (codeAny_mono (FF'.run X.A X.stack s1 (kQ q H1) ⟨us,[]⟩ us vs _ E0 (h.room.mono hj) e0 hbs rv hsp) fun r s' hq=>?_)
 cases r with
 | error e=>exact hq.elim
 | ok fl =>
  cases fl with
  | next=>exact False.elim hq
  | brk=>exact False.elim hq
  | cont=>exact False.elim hq
  | ret u =>
   obtain ⟨v,H2,os,bare,un,hok2,rvu,q2⟩:=hq;have cold:∀ b,eJ q (H1 b)->∃ o,s1.heap.get? b=some o:=fun b ⟨oc,_,_,e,_⟩=>⟨oc,(I1.hok b _ e).1⟩
   have hcn:∀ b,eJ q (H1 b)->H2 b=none:=fun b hb=>by
    obtain ⟨o,ho⟩:=cold b hb;exact un.free b o ho (sJ hb) (by simp)
   have nc:∀ {b o},H1 b=some o->(∀ oc,o≠.frz oc (.own 0))->¬ eJ q (H1 b):=fun {b o} e n z=>by rw [e] at z;obtain ⟨oc,z⟩:=dR z;exact n oc z
   have un':Un (jU X.stack) [] H1 (oK q H1 H2) s1.heap s'.heap:=by
    refine ⟨fun b o e n a1 a2=>un.keep b o e (hid0 b n) a1 a2,fun b o e n a1 a2=>un.slot b o e (hid0 b n) a1 a2,fun b o e n a=>?_,fun b o e a=>un.there b o e a,fun b xs e=>?_,fun b o u e=>?_,fun b qs e=>?_⟩
    ·rw [cT (by rw [n];exact AB)];exact un.free b o e (hid0 b n) a
    ·have hc:=nc e (by simp)
     rw [cT hc];exact un.tups b xs (by rw [cS hc];exact e)
    ·by_cases hc:eJ q (H1 b)
     ·rw [wZ hc];exact e
     ·rw [cT hc];exact un.frzs b o u (by rw [cS hc];exact e)
    ·have hc:=nc e (by simp)
     rw [cT hc];exact un.tbls b qs (by rw [cS hc];exact e)
   have hok':fD X.prog X.w (oK q H1 H2) s'.heap:=by
    intro b o e
    by_cases hc:eJ q (H1 b)
    ·rw [wZ hc] at e
     obtain ⟨oc,vs',t',e',_⟩:=hc;rw [e] at e';cases e';have hb:=(I1.hok b _ e).1;have hk':=un.keep b oc hb (sJ ⟨oc,vs',t',e,by assumption⟩) (fun hb=>by rw [I1.stkFree b hb] at e;cases e) (by simp);exact ⟨hk',_,hk'⟩
    ·rw [cT hc] at e
     refine (hok2 b o e).stay (fun _ _ _ z=>z) (fun a ea=>?_) (fun a xs ea=>?_)
     ·rw [cT (fun z=>by rw [hcn a z] at ea;cases ea)];exact ea
     ·rw [cT (fun z=>by rw [hcn a z] at ea;cases ea)];exact ea
   have I2:L2.Inv X pins σ (oK q H1 H2) s':=Inv.call' (ch:=[]) I1 os un' hok' bare (fun b z=>absurd z (by simp));exact ⟨v,_,I2,rvu,q2 hcn⟩
def VF (P:Addr) (q:Str) (L:vE) (sp:Addr->bE->bE):SU->List U->List Addr->aG->UK->Prop:=fun τ us fs M1 Q=>match fs with
 | [fl]=>M1 P=some (.tbl q)/\(∀ u,some u∈pH L τ->u9 u)/\((∀ b,jZ M1 P b≠some (.tbl q))->sp fl (p7 L τ) us (jZ M1 P) fun u M2=>(∀ b,M2 b≠some (.tbl q))/\Q u (mup M2 P (.tbl q)))
 | _=>False
def Oh (P:Addr) (q:Str) (L L':vE) (sp:Addr->bE->Addr->bE->bE):SU->List U->List Addr->aG->UK->Prop:=fun τ us fs M1 Q=>match fs with
 | [fl,fl']=>M1 P=some (.tbl q)/\(∀ u,some u∈pH L τ->u9 u)/\(∀ u,some u∈pH L' τ->u9 u)/\((∀ b,jZ M1 P b≠some (.tbl q))->sp fl (p7 L τ) fl' (p7 L' τ) us (jZ M1 P) fun u M2=>(∀ b,M2 b≠some (.tbl q))/\Q u (mup M2 P (.tbl q)))
 | _=>False
def Vu (sp:Addr->bE->Addr->bE->bE):List (Addr × bE)->bE
 | [(fl,s),(fl',s')]=>sp fl s fl' s'
 | _=>fun _ _ _=>False
theorem JV {D:Dat} (k:Nat) (L L':vE) {sp:Addr->bE->Addr->bE->bE} {t:v5} (hm:D.mg x=some (.ref f)) (hk:PySem.W.keepIn D.K (.ref f)=true)
  (F:∀ (base:Heap) (fl:Addr) (s:bE) (fl':Addr) (s':bE),h9 base D.mg->fM D.prog D.w D.K D.mg base (k + 1) fl s->fM D.prog D.w D.K D.mg base (k + 1) fl' s'->Callee D.prog D.w D.K D.mg base j x (sp fl s fl' s') []) (hB:h9 D.base D.mg) (hL:AJ D k L) (hL':AJ D k L') (ha:wI D q (e :: es) [L.lam,L'.lam] t)
  (hj:j<=D.k:=by first | exact Nat.le_refl _ | (dsimp only;omega) | omega) (hfn:D.fn=true:=by rfl) (hg:D.sc.names.lookup x=some .globalImplicit:=by rfl) (hdb:(x == ("__debug__":Str))=false:=by decide)
  (he:∀ env,starEach (e :: es) env=(false,eval e env) :: starEach es env:=by intro _;rfl) (hpl:∀ env,(backTo pos (starEach es env)).any (·.1)=false:=by intro _;rfl):aT D (.Call (.Name x p) (e :: es) [] pos) (t8 (Oh P q L L' sp) t):=by
 refine LY (Ls:=[L,L']) (sp:=Vu sp) (P:=P) (q:=q) (j:=j) (k:=k) hm hk (fun base fs hl hb hf=>?_) (fun τ us fs M1 Q hl h=>?_) hB (fun L'' h'=>?_) ha hj hfn hg hdb he hpl
 ·match fs,hl with
  | [(fl,s),(fl',s')],_=>exact F base fl s fl' s' hb (hf (fl,s) List.mem_cons_self) (hf (fl',s') (List.mem_cons_of_mem _ List.mem_cons_self))
 ·match fs,hl,h with
  | [fl,fl'],_,h =>
   obtain ⟨h1,h2,h2',h3⟩:=h;refine ⟨h1,fun L'' h'=>?_,h3⟩
   rcases List.mem_cons.mp h' with z | z
   ·subst z;exact h2
   ·cases List.mem_singleton.mp z;exact h2'
 ·rcases List.mem_cons.mp h' with z | z
  ·subst z;exact hL
  ·cases List.mem_singleton.mp z;exact hL'
end U2
namespace U2
open PySem PySem.Spec PyProof.Rows L2
section
variable {P:Program} {w:World} {K:PySem.W.Frag} {mg:Str->Option Value} {base:Heap}
theorem IW {x:Str} {st:Stmt} {f c0:Addr} {fd:FuncData} {N ps:List Str} {k:Nat} {sp:bE} {t:US} (F:cI K x x st f fd) (hfd:fd.code=.ref c0) (hm:mg x=some (.ref f)) (S:aV N ps (aL st))
  (bind:∀ (kV doc pm:Value) (an:Option Addr) (cdv ct:Value) (us:List Value),us.length=ps.length->bindArgs (PySem.W.fnOf x x (dJ st) (cA st) (aL st) .none kV doc pm an cdv ct) ⟨us,[]⟩=pure (ps.zip us))
  (len:∀ us M Q,sp us M Q->us.length=ps.length)
  (h:mI ⟨P,w,K,mg,base,N,aL st,k,true,.ref c0,x++".<locals>."⟩ (cA st) t)
  (q:∀ us M Q,sp us M Q->t { nx:=fun _ M'=>kF Q .non M',rt:=kF Q } (dW N us) M):Callee P w K mg base (k + 1) x sp []:=by
 obtain ⟨t0,h1,h2⟩:=h;have hb:=F.binds bind;have kp:=F.kp;obtain ⟨oc,od,kV,doc,pm,an,cdv,ct,osl,rfl,lk,hcd⟩:=F.ex;have hfd':cdv=.ref c0:=hfd;subst hfd';refine ⟨f,_,ps,[],[],N6 lk hcd S (fun vs H Q E ⟨us,M,Q',_,r,hs,_⟩=>by rw [<- r.length];exact len us M Q' hs) (fun A outer s H vs Q E hr ⟨us,M,Q',rm,r,hs,c⟩=>?_),hm,kp,hb,.nil,fun H M=>.nil⟩;refine ⟨t0,rB.nox (h1 _ ⟨rfl,rfl,rfl,rfl,rfl,rfl,rfl,hr,rfl,rfl,fun _ _=>rfl,fun _=>⟨rfl,rfl⟩,fun _=>⟨rfl,rfl,rfl⟩⟩),?_⟩;refine h2 _ (dW N us) H M _ (sA r) rm (q us M Q' hs) _ ⟨fun σ τ H1 M1 s1 rm1 rs1 q1=>?_,fun u v H1 M1 s1 rm1 ru q1=>kF.ok c s1 rm1 ru q1,fun _ _ _ _ _ _ _ z=>z.elim,fun _ _ _ _ _ _ _ z=>z.elim⟩;exact kF.ok c s1 rm1 mL q1
end
def HG (ts:List Addr) (H:Hp):Prop:=∀ b,H b=none\/(∃ o xs,H b=some (.frz o (.lst xs)))\/(b∈ts/\H b=some (.tbl #[]))
variable {K:PySem.W.Frag} {a:Addr} {x:Str} {ns:List Int} {ts:List Addr}
theorem Ku {P:Program} {w:World} {mg mb:Str->Option Value} {k:Nat} {fa:Addr} {fd:FuncData} {sp:Sp} {s₁:Shared} {vs:List Value}
  (KX:K.In s₁.heap) (hns:s₁.heap.Ns mainGlobals mg) (hb:s₁.heap.Ns builtinsNs mb) (hbb:∀ x:Str,x≠"__name__"->mb x=bootBuiltins x) (hlim:s₁.heap.NoLimit) (hg:s₁.gens=#[])
  (hB:h9 s₁.heap mg) (hT:∀ p∈ts,s₁.heap.get? p=some (PySem.W.tabObj #[])/\K.lookup p=none/\isCodeTable s₁.heap p)
  (ha:s₁.heap.get? a=some { cls:=.type "list",data:=.seq vs.toArray }) (hi:IntsAre vs ns) (hl:ns.length<=sizeLine) (hr:cV k callerA)
  (F:∀ base:Heap,K.In base->base.Ns mainGlobals mg->h9 base mg->fY P w K mg base mB k fa fd [x] sp) (hbind:∀ (s:Shared) (u:Value),BindsTo s fd ⟨[u],[]⟩ [(x,u)])
  (hsp:∀ H:Hp,HG ts H->eR K H a (ns.map V.int)->(∀ p∈ts,H p=some (.tbl #[]))->sp [.ref a] H (fun v _=>v=.bl true) fun _ _ _=>False) :
  codeAny (model P w) callerA (.call (.ref fa) ⟨[.ref a],[]⟩) (fun r s'=>r=.ok (.ret (.bool true))/\OldK s₁.heap s'.heap/\s'.os=s₁.os/\AllBare s'.gens) s₁:=by
 have rv:=CN hi;have lenV:=hi.length
 have haT:a ∉ ts:=fun z=>by
  have:=(hT a z).1
  rw [ha] at this;cases this
 have core:∀ H:Hp,HG ts H->eR K H a (ns.map V.int)->(∀ p∈ts,H p=some (.tbl #[]))->fD P w H s₁.heap->(∀ b,H b≠none->b=a\/b∈ts)->(H a≠none->K.lookup a=none) ->
   codeAny (model P w) callerA (.call (.ref fa) ⟨[.ref a],[]⟩) (fun r s'=>r=.ok (.ret (.bool true))/\OldK s₁.heap s'.heap/\s'.os=s₁.os/\AllBare s'.gens) s₁:=by
  intro H hO hS hTb hok hA hK;have base_of:∀ {b:Addr} {o:Obj},s₁.heap.get? b=some o->H b=none->(gK s₁.heap H).get? b=some o:=fun e n=>qW e n
  have noD:∀ {b:Addr} {o:Obj},s₁.heap.get? b=some o->(∀ xs n,o.data≠.seq xs n)->(∀ vs,o.data≠.fields vs)->H b=none:=fun {b o} e d1 d2=>by
   cases q:H b with
   | none=>rfl
   | some u =>
    rcases hA b (by rw [q];simp) with e' | e'
    ·subst e'
     rw [ha] at e;cases e;exact absurd rfl (d1 _ _)
    ·rw [(hT b e').1] at e;cases e
     exact absurd rfl (d2 _)
  have noA:∀ {b:Addr} {o:Obj} {es:Array DictEntry} {ep:Nat},s₁.heap.get? b=some o->o.data=.dict es ep->H b=none:=fun {b o es ep} e d=>noD e (fun xs n z=>by rw [d] at z;cases z) (fun vs z=>by rw [d] at z;cases z);have nsK:∀ {b:Addr} {m:Str->Option Value},s₁.heap.Ns b m->(gK s₁.heap H).Ns b m:=fun {b m} ⟨o,es,ep,e,d,r⟩=>⟨o,es,ep,base_of e (noA e d),d,r⟩
  have hKb:K.In (gK s₁.heap H):=fun b o e=>base_of (KX b o e) (by
   cases q:H b with
   | none=>rfl
   | some u =>
    rcases hA b (by rw [q];simp) with e' | e'
    ·subst e'
     rw [hK (by rw [q];simp)] at e;cases e
    ·rw [(hT b e').2.1] at e;cases e)
  have hBb:h9 (gK s₁.heap H) mg:=by
   obtain ⟨bm,o,b1,b2,b3,b4,b5,b6,b7⟩:=hB;exact ⟨bm,o,b1,b2,b3,base_of b4 (noD b4 (fun xs n z=>by rw [b7] at z;cases z) (fun vs z=>by rw [b7] at z;cases z)),b5,b6,b7⟩
  have hM:Mod K mg (gK s₁.heap H):=⟨hKb,nsK hns,⟨mb,nsK hb,hbb⟩,let ⟨mc,h1,h2⟩:=hlim;⟨mc,nsK h1,h2⟩⟩;have e0:w9 P w K mg (gK s₁.heap H) callerA [] s₁ H:=⟨rfl,hM,fun b o e=>BY e,Nat.le_of_eq (Cz _ _),trivial,fun b hb=>absurd (show b∈([]:List Addr) from hb) (by simp),hok,.of_eq hg⟩;refine codeAny_mono ((F _ hKb (nsK hns) hBb).run callerA [] s₁ H ⟨[.ref a],[]⟩ [.ref a] [.ref a] _ _ hr e0 (hbind s₁ (.ref a)) (.cons rfl .nil) (hsp H hO hS hTb)) fun r s' h=>?_
  cases r with
  | error e=>exact h.elim
  | ok fl =>
   cases fl with
   | next=>exact False.elim h
   | brk=>exact False.elim h
   | cont=>exact False.elim h
   | ret u =>
    obtain ⟨v,H',os,bare,un,hok',r',q⟩:=h;have q':v=.bl true:=q;subst q';obtain rfl:u=Value.bool true:=r'
    have kept:∀ b o,s₁.heap.get? b=some o->b ∉ ts->s'.heap.get? b=some o:=fun b o e hbt=>by
     cases q:H b with
     | none=>exact un.keep b o e q (by intro z;exact absurd (show b∈([]:List Addr) from z) (by simp)) (by simp)
     | some u =>
      rcases hO b with z | ⟨ob,xs,z⟩ | ⟨z,_⟩
      ·rw [q] at z;cases z
      ·have z2:=un.frzs b ob _ z
       obtain ⟨e1,_⟩:=hok b _ z;obtain ⟨e2,_⟩:=hok' b _ z2;rw [e] at e1;cases e1;exact e2
      ·exact absurd z hbt
    refine ⟨rfl,⟨fun b o e=>?_,fun b o e=>?_⟩,os,bare⟩
    ·by_cases hbt:b∈ts
     ·obtain ⟨h1,_,h3⟩:=hT b hbt
      rw [h1] at e;cases e;obtain ⟨more,hm⟩:=un.tbls b _ (hTb b hbt)
      have:=hok' b _ hm
      exact .inr (.inl ⟨h3,rfl,#[],more,rfl,this⟩)
     ·exact .inl (kept b o e hbt)
    ·by_cases hbt:b∈ts
     ·obtain ⟨more,hm⟩:=un.tbls b _ (hTb b hbt)
      exact ⟨_,hok' b _ hm⟩
     ·exact ⟨o,kept b o e hbt⟩
 have tOk:∀ (H:Hp) b,b∈ts->cZ P w H s₁.heap b (.tbl #[]):=fun H b hb=>(hT b hb).1
 open Classical in
 cases hk:K.lookup a with
 | some o =>
  have e:=KX a o hk;rw [ha] at e;cases e;refine core (fun b=>if b∈ts then some (.tbl #[]) else none) (fun b=>?_) (.inr ⟨_,vs.toArray,_,hk,rfl,rfl,rfl,by rw [List.size_toArray,lenV];exact hl,by simpa using rv⟩) (fun p hp=>if_pos hp) (fun b u z=>?_) (fun b z=>?_) (fun z=>absurd (if_neg haT) z)
  ·by_cases hb:b∈ts
   ·exact .inr (.inr ⟨hb,if_pos hb⟩)
   ·exact .inl (if_neg hb)
  ·by_cases hb:b∈ts
   ·have z':=(if_pos hb).symm.trans z
    cases z';exact tOk _ b hb
   ·have z':=(if_neg hb).symm.trans z
    cases z'
  ·by_cases hb:b∈ts
   ·exact .inr hb
   ·exact absurd (if_neg hb) z
 | none =>
  refine core (fun b=>if b=a then some (.frz { cls:=.type "list",data:=.seq vs.toArray } (.lst (ns.map V.int))) else if b∈ts then some (.tbl #[]) else none) (fun b=>?_) (.inl (.inr ⟨{ cls:=.type "list",data:=.seq vs.toArray },if_pos rfl⟩)) (fun p hp=>?_) (fun b u z=>?_) (fun b z=>?_) fun _=>hk
  ·by_cases hb:b=a
   ·exact .inr (.inl ⟨_,_,if_pos hb⟩)
   ·by_cases hbt:b∈ts
    ·exact .inr (.inr ⟨hbt,(if_neg hb).trans (if_pos hbt)⟩)
    ·exact .inl ((if_neg hb).trans (if_neg hbt))
  ·exact (if_neg (fun z:p=a=>haT (z ▸ hp))).trans (if_pos hp)
  ·by_cases hb:b=a
   ·have z':=(if_pos hb).symm.trans z
    cases z';subst hb;exact ⟨ha,by rw [List.length_map];exact hl,vs,_,rv,ha⟩
   ·by_cases hbt:b∈ts
    ·have z':=((if_neg hb).trans (if_pos hbt)).symm.trans z
     cases z';exact tOk _ b hbt
    ·have z':=((if_neg hb).trans (if_neg hbt)).symm.trans z
     cases z'
  ·by_cases hb:b=a
   ·exact .inl hb
   ·by_cases hbt:b∈ts
    ·exact .inr hbt
    ·exact absurd ((if_neg hb).trans (if_neg hbt)) z
theorem Nl {l:PySem.W.OpenLaw} {n k:Nat} {q:Program} {loose:List Str} {XP:(Str->Option Value)->Heap->Prop} {YP:World->Heap->Prop} {d:DefRec} {K:Params->PySem.W.Frag} {sp:World->Sp}
  (hn:l.most=some n) (hn2:n<=sizeLine) (hdf:d.params.defaults=[]) (hr:cV k callerA)
  (hY:∀ (w:World) (h:Heap),YP w h->(K w.params).In h/\∀ P∈ts,h.get? P=some (PySem.W.tabObj #[]))
  (hTK:∀ (w:World),∀ P∈ts,(K w.params).lookup P=none/\∃ c,PySem.W.codeHdIn (K w.params) c P=true)
  (F:∀ (w:World) (mg:Str->Option Value) (fa:Addr) (h:Heap),(K w.params).In h->h.Ns mainGlobals mg->mg d.name=some (.ref fa) ->
   ∃ fd:FuncData,(∀ (s:Shared) (u:Value),BindsTo s fd ⟨[u],[]⟩ [(x,u)]) /\
    ∀ base:Heap,(K w.params).In base->base.Ns mainGlobals mg->h9 base mg->fY l.prog w (K w.params) mg base mB k fa fd [x] (sp w))
  (hsp:∀ (w:World) (H:Hp) (a:Addr) (ns:List Int),ns.length<=n->HG ts H->eR (K w.params) H a (ns.map V.int)->(∀ p∈ts,H p=some (.tbl #[]))->sp w [.ref a] H (fun v _=>v=.bl true) fun _ _ _=>False) :
  PySem.W.WalkO q loose XP YP l.row.toRowW d [] (fun f vs=>PySem.call f vs):=by
 refine Att.attach_call hn hdf fun w s₀ s₁ mg mb fa o pm cd doc a vs ns G Y ho hd hcd hmg hobj hints hlen hg=>?_;obtain ⟨KX,TX⟩:=hY w _ Y;obtain ⟨fd,hb,hF⟩:=F w mg fa _ KX G.T.g hmg
 have hB:h9 s₁.heap mg:=by
  obtain ⟨bm,ob,b1,b2,b3,b4,b5,b6⟩:=G.T.bmain;refine ⟨bm,ob,b1,b2,fun z=>?_,b3,b4,b5,b6⟩;obtain ⟨o,es,ep,e,hd,_⟩:=G.T.g;rw [z,e] at b3;cases b3;rw [hd] at b6;cases b6
 exact Ku KX G.T.g G.T.b G.T.builtins G.T.nolimit hg hB (fun p hp=>⟨TX p hp,(hTK w p hp).1,let ⟨c,hc⟩:=(hTK w p hp).2;((PySem.W.codeHd_of_K KX hc).tab (TX p hp)).isCodeTable⟩) hobj hints (Nat.le_trans hlen hn2) hr hF hb (fun H hO hS hT=>hsp w H a ns hlen hO hS hT)
section
variable {D:Dat} {x:Str} {p pos:Pos} {e:Expr} {es:List Expr} {f P:Addr} {q:Str} {j:Nat}
theorem O5 (k:Nat) (N ps:List Str) (ix:List Nat) (N' ps':List Str) (ix':List Nat) {params params':Arguments} {body body':Expr} {scope scope':Scope} {te te':UE} {sp:Addr->bE->Addr->bE->bE} {t:v5} (hm:D.mg x=some (.ref f)) (hk:PySem.W.keepIn D.K (.ref f)=true)
  (F:∀ (base:Heap) (fl:Addr) (s:bE) (fl':Addr) (s':bE),h9 base D.mg->fM D.prog D.w D.K D.mg base (k + 1) fl s->fM D.prog D.w D.K D.mg base (k + 1) fl' s'->Callee D.prog D.w D.K D.mg base j x (sp fl s fl' s') []) (hB:h9 D.base D.mg) (ha:wI D q (e :: es) [⟨params,body,scope⟩,⟨params',body',scope'⟩] t) (hb:∀ base,h9 base D.mg->aT (DG D base k N scope) body te) (hb':∀ base,h9 base D.mg->aT (DG D base k N' scope') body' te')
  (s1:scope.kind=.function:=by rfl) (s2:scope.isCoroutine=false:=by rfl) (s3:scope.isGenerator=false:=by rfl) (s4:N.Nodup:=by decide +kernel) (s5:N.take ps.length=ps:=by rfl) (s6:∀ x∈ps,scope.names.lookup x=some .local:=by decide +kernel) (s7:∀ y∈scope.names,y.2≠.cell:=by decide +kernel) (s8:∀ x∈N.drop ps.length,scope.names.lookup x=some .free:=by decide +kernel)
  (s9:N.length=ps.length + ix.length:=by rfl) (s10:ix.map (fun i=>D.N[i]?)=(N.drop ps.length).map some:=by rfl) (s11:∀ y∈scope.names,y.2=.free->D.sc.names.lookup y.1=some .cell\/D.sc.names.lookup y.1=some .free:=by first | decide +kernel | (dsimp only;decide +kernel)) (s12:∀ x∈N.drop ps.length,D.sc.names.lookup x=some .cell\/D.sc.names.lookup x=some .free:=by first | decide +kernel | (dsimp only;decide +kernel))
  (s13:∀ (q:Str) (cl:List (Str × Addr)) (pm cd ct:Value) (us:List Value),us.length=ps.length->bindArgs (PySem.W.kla_fn "<lambda>" q params body scope cl pm cd ct) ⟨us,[]⟩=pure (ps.zip us):=by exact fun _ _ _ _ _ us hl=>(match us,hl with | [_],_=>rfl))
  (r1:scope'.kind=.function:=by rfl) (r2:scope'.isCoroutine=false:=by rfl) (r3:scope'.isGenerator=false:=by rfl) (r4:N'.Nodup:=by decide +kernel) (r5:N'.take ps'.length=ps':=by rfl) (r6:∀ x∈ps',scope'.names.lookup x=some .local:=by decide +kernel) (r7:∀ y∈scope'.names,y.2≠.cell:=by decide +kernel) (r8:∀ x∈N'.drop ps'.length,scope'.names.lookup x=some .free:=by decide +kernel)
  (r9:N'.length=ps'.length + ix'.length:=by rfl) (r10:ix'.map (fun i=>D.N[i]?)=(N'.drop ps'.length).map some:=by rfl) (r11:∀ y∈scope'.names,y.2=.free->D.sc.names.lookup y.1=some .cell\/D.sc.names.lookup y.1=some .free:=by first | decide +kernel | (dsimp only;decide +kernel)) (r12:∀ x∈N'.drop ps'.length,D.sc.names.lookup x=some .cell\/D.sc.names.lookup x=some .free:=by first | decide +kernel | (dsimp only;decide +kernel))
  (r13:∀ (q:Str) (cl:List (Str × Addr)) (pm cd ct:Value) (us:List Value),us.length=ps'.length->bindArgs (PySem.W.kla_fn "<lambda>" q params' body' scope' cl pm cd ct) ⟨us,[]⟩=pure (ps'.zip us):=by exact fun _ _ _ _ _ us hl=>(match us,hl with | [_,_],_=>rfl))
  (hj:j<=D.k:=by first | exact Nat.le_refl _ | (dsimp only;omega) | omega) (hfn:D.fn=true:=by rfl) (hg:D.sc.names.lookup x=some .globalImplicit:=by rfl) (hdb:(x == ("__debug__":Str))=false:=by decide)
  (he:∀ env,starEach (e :: es) env=(false,eval e env) :: starEach es env:=by intro _;rfl) (hpl:∀ env,(backTo pos (starEach es env)).any (·.1)=false:=by intro _;rfl):aT D (.Call (.Name x p) (e :: es) [] pos) (t8 (Oh P q ⟨⟨params,body,scope⟩,N,ps,ix,te⟩ ⟨⟨params',body',scope'⟩,N',ps',ix',te'⟩ sp) t) :=
 JV k ⟨⟨params,body,scope⟩,N,ps,ix,te⟩ ⟨⟨params',body',scope'⟩,N',ps',ix',te'⟩ hm hk F hB ⟨⟨s1,s2,s3,s4,s5,s6,s7,s8⟩,s9,s10,s11,s12,hb,s13⟩ ⟨⟨r1,r2,r3,r4,r5,r6,r7,r8⟩,r9,r10,r11,r12,hb',r13⟩ ha hj hfn hg hdb he hpl
end
def mT (ts:List (Addr × Str)):aG:=fun b=>(ts.lookup b).map MO.tbl
theorem o9 {b:Addr} {q:Str}:∀ {ts:List (Addr × Str)},ts.lookup b=some q->(b,q)∈ts
 | [],h=>by cases h
 | (c,r) :: ts,h=>by
  rw [List.lookup_cons] at h
  by_cases e:b=c
  ·subst e
   rw [beq_self_eq_true] at h;cases h;exact List.mem_cons_self
  ·rw [show (b == c)=false from beq_eq_false_iff_ne.mpr e] at h
   exact List.mem_cons_of_mem _ (o9 h)
variable {ts:List (Addr × Str)} {H:Hp}
theorem Qh (hu:∀ p∈ts,∀ p'∈ts,p.2=p'.2->p.1=p'.1) (hT:∀ b∈ts.map Prod.fst,H b=some (.tbl #[])):RelM K H (mT ts):=by
 intro b mo h;unfold mT at h
 cases e:ts.lookup b with
 | none=>rw [e] at h;cases h
 | some q =>
  rw [e] at h;cases h;refine ⟨fun b' h'=>?_,#[],hT b (List.mem_map.mpr ⟨_,o9 e,rfl⟩),trivial,fun pos c hc=>by cases hc⟩;unfold mT at h'
  cases e':ts.lookup b' with
  | none=>rw [e'] at h';cases h'
  | some q' =>
   rw [e'] at h';cases h';exact hu _ (o9 e') _ (o9 e) rfl
theorem CU {K:PySem.W.Frag} {H:Hp} {M:aG}:∀ ns:List Int,aI K H M (ns.map U.int) (ns.map V.int)
 | []=>.nil
 | _ :: r=>.cons c8 (CU r)
theorem FN (hT:∀ b∈ts.map Prod.fst,H b=some (.tbl #[])) (hS:eR K H a (ns.map V.int)):aI K H (mT ts) [.lst (ns.map .int)] [.ref a]:=by
 refine .cons ?_ .nil;simp only [aM];refine ⟨a,_,rfl,?_,CU ns⟩
 rcases hS with h | h
 ·refine .inl ⟨?_,h⟩
  unfold mT
  cases e:ts.lookup a with
  | none=>rfl
  | some q =>
   have:=hT a (List.mem_map.mpr ⟨_,o9 e,rfl⟩)
   rcases h with h | ⟨o,h⟩ <;> rw [this] at h <;> cases h
 ·exact .inr h
theorem Ro {E:XK} {sp:bE} (hS:eR K H a (ns.map V.int)) (hT:∀ b∈ts.map Prod.fst,H b=some (.tbl #[])) (hu:∀ p∈ts,∀ p'∈ts,p.2=p'.2->p.1=p'.1)
  (h:sp [.lst (ns.map .int)] (mT ts) fun u _=>u=.bl true):cP K sp [.ref a] H (fun v _=>v=.bl true) E :=
 ⟨[.lst (ns.map .int)],mT ts,fun u _=>u=.bl true,Qh hu hT,FN hT hS,h,fun u v M1 H1 _ _ ru q=>by subst q;exact ru.bl⟩
section
variable {D:Dat} {x:Str} {p pos:Pos} {e:Expr} {es:List Expr} {f P:Addr} {q:Str} {j:Nat}
end
end U2
namespace L2
open PySem PySem.Spec PyProof.Rows PySem.F
def yD (h:Heap) (d:Addr) (es:Array DictEntry) (ep:Nat):Prop:=∃ o,h.get? d=some o/\o.ExactDict/\o.data=.dict es ep
theorem yD.ty {s:Shared} {d:Addr} {es:Array DictEntry} {ep:Nat} (r:yD s.heap d es ep):s.TypeIs (.ref d) "dict":=let ⟨o,e,c,_⟩:=r;⟨o,e,c.1⟩
section
variable {prog:Program} {w:World} {A:Around} {E:Value->Shared->Prop} {s:Shared} {d it vw:Addr} {es:Array DictEntry} {ep i:Nat} {e:DictEntry}
theorem MZ {Q:Value->Shared->Prop} (lo:(d == sysModules)=false) (r:yD s.heap d es ep)
  (q:Q (.ref s.heap.objs.size) { s with heap:=s.heap.push { cls:=.type "dict_keyiterator",data:=.fields #[.ref d,.int 0 0,.int es.size 0,.int ep 0] } }):wpAny (model prog w) A (pyIter (.ref d)) Q E s:=by
 obtain ⟨o,g,c,dd⟩:=id r;refine wpAny_pyIter_slot r.ty slot_dict_iter (wpAny_call_entry slot_dict_iter r.ty entry_dict_iter ?_ (args_dict_iter_1 _));unfold Builtin.«dict.__iter__»;refine wpAny_bind ?_;unfold Builtin.Dict.dictSlotNone;refine wpAny_bind (wpAny_notOrdered_dict r.ty ?_);show wpAny (model prog w) _ (pure (Value.ref d)) _ _ s;refine wpAny_pure ?_;show wpAny (model prog w) _ (Builtin.Dict.showsAll d >>= _) _ _ s;unfold Builtin.Dict.showsAll;rw [if_neg (by rw [lo];decide)];refine wpAny_bind (wpAny_pure (wpAny_bind (wpAny_dictEntries g dd (wpAny_bind (wpAny_dictEpoch g dd ?_)))))
 refine wpAny_bind (wpAny_newObj_type (wpAny_pure ⟨_,rfl,"dict_keyiterator",_,⟨_,Heap.get?_push_size _ rfl,rfl⟩,slot_dict_keyiterator_next.lookup,?_⟩))
 simpa [rawInt] using q
variable {Q:Option Value->Shared->Prop}
theorem LS (hit:s.heap.IsKeyIter it d i es.size ep) (r:yD s.heap d es ep) (hx:es[i]?=some e)
  (q:∀ h',h'.IsKeyIter it d (i + 1) es.size ep->Heap.SameBut it s.heap h'->Q (some e.key) { s with heap:=h' }):wpAny (model prog w) A (pyNext (.ref it)) Q E s:=by
 obtain ⟨oi,gi,ci,di⟩:=id hit;obtain ⟨o,g,c,dd⟩:=id r;have T:=hit.typeIs;have lt:i < es.size:=(Array.getElem?_eq_some_iff.mp hx).1;unfold pyNext
 refine wpAny_bind (wpAny_attempt (wpAny_callSpecial?_slot (name:=Str.ofString "__next__") T slot_dict_keyiterator_next (wpAny_call_entry slot_dict_keyiterator_next T entry_dict_keyiterator_next ?_ (args_dict_keyiterator_next_1 _))))
 refine wpAny_bind (wpAny_pure (wpAny_bind (wpAny_bind ?_)))
 first | refine wpAny_bind (wpAny_typeNameOfWhole_keyiter T (wpAny_pure (wpAny_bind (wpAny_fieldsOf gi di ?_)))) | refine wpAny_bind (wpAny_typeNameOf_keyiter T (wpAny_pure (wpAny_bind (wpAny_fieldsOf gi di ?_))))
 simp only [show Builtin.Dict_items.ownsTuple "dict_keyiterator"=false by decide,Bool.false_eq_true,if_false]
 show wpAny (model prog w) _ (if (Value.ref d == Value.none)=true then _ else _) _ _ s;rw [if_neg (show ¬ ((Value.ref d == Value.none)=true) from Bool.false_ne_true)];refine wpAny_bind (wpAny_pure (wpAny_bind (wpAny_dictEntries g dd ?_)));rw [if_neg (by simp)];refine wpAny_bind (wpAny_pure (wpAny_bind (wpAny_dictEpoch g dd ?_)));rw [if_neg (by simp)];refine wpAny_pure ?_;simp only [show ¬ ((i:Int) < 0) by omega,if_false,Int.toNat_natCast,hx];refine wpAny_bind ?_
 first | refine wpAny_bind (wpAny_typeNameOfWhole_keyiter T (wpAny_pure (wpAny_bind (wpAny_isOneOf_keyiter T ?_)))) | refine wpAny_bind (wpAny_typeNameOf_keyiter T (wpAny_pure (wpAny_bind (wpAny_isOneOf_keyiter T ?_))))
 show wpAny (model prog w) _ (setField (.ref it) 1 (rawInt ((i:Int) + 1)) >>= _) _ _ s;refine wpAny_bind (wpAny_setField gi di (by simp) ?_)
 have hit':(s.heap.update it (Obj.mapFields (·.setIfInBounds 1 (rawInt ((i:Int) + 1))))).IsKeyIter it d (i + 1) es.size ep :=
  ⟨_,Heap.get?_update_self _ gi (Obj.isFreed_of_fields (Obj.data_mapFields di _)),(Obj.cls_mapFields ..).trans ci,by rw [Obj.data_mapFields di];simp [rawInt]⟩
 refine wpAny_bind (wpAny_holding (wpAny_bind (wpAny_isOneOf_keyiter (s:={ s with heap:=s.heap.update it (Obj.mapFields (·.setIfInBounds 1 (rawInt ((i:Int) + 1)))) }) hit'.typeIs ?_)));show wpAny (model prog w) _ (pure e.key) _ _ _;exact wpAny_pure (wpAny_pure ⟨_,rfl,wpAny_pure (q _ hit' (Heap.SameBut.update ..))⟩)
theorem QC (hh:A.handled=none) (hit:s.heap.IsKeyIter it d i es.size ep) (r:yD s.heap d es ep) (hx:es[i]?=none)
  (q:∀ h',Heap.ExtBut it s.heap h'->Q none { s with heap:=h' }):wpAny (model prog w) A (pyNext (.ref it)) Q E s:=by
 obtain ⟨oi,gi,ci,di⟩:=id hit;obtain ⟨o,g,c,dd⟩:=id r;have T:=hit.typeIs;unfold pyNext
 refine wpAny_bind (wpAny_attempt (wpAny_callSpecial?_slot (name:=Str.ofString "__next__") T slot_dict_keyiterator_next (wpAny_call_entry slot_dict_keyiterator_next T entry_dict_keyiterator_next ?_ (args_dict_keyiterator_next_1 _))))
 refine wpAny_bind (wpAny_pure (wpAny_bind (wpAny_bind ?_)))
 first | refine wpAny_bind (wpAny_typeNameOfWhole_keyiter T (wpAny_pure (wpAny_bind (wpAny_fieldsOf gi di ?_)))) | refine wpAny_bind (wpAny_typeNameOf_keyiter T (wpAny_pure (wpAny_bind (wpAny_fieldsOf gi di ?_))))
 simp only [show Builtin.Dict_items.ownsTuple "dict_keyiterator"=false by decide,Bool.false_eq_true,if_false]
 show wpAny (model prog w) _ (if (Value.ref d == Value.none)=true then _ else _) _ _ s;rw [if_neg (show ¬ ((Value.ref d == Value.none)=true) from Bool.false_ne_true)];refine wpAny_bind (wpAny_pure (wpAny_bind (wpAny_dictEntries g dd ?_)));rw [if_neg (by simp)];refine wpAny_bind (wpAny_pure (wpAny_bind (wpAny_dictEpoch g dd ?_)));rw [if_neg (by simp)];refine wpAny_pure ?_;simp only [show ¬ ((i:Int) < 0) by omega,if_false,Int.toNat_natCast,hx];refine wpAny_bind ?_
 first | refine wpAny_bind (wpAny_typeNameOfWhole_keyiter T (wpAny_pure ?_)) | refine wpAny_bind (wpAny_typeNameOf_keyiter T (wpAny_pure ?_))
 show wpAny (model prog w) _ (setField (.ref it) 0 .none >>= _) _ _ s;refine wpAny_bind (wpAny_setField gi di (by simp) ?_)
 show wpAny (model prog w) _ (newExc (.type "StopIteration") [] >>= _) _ _ _
 refine wpAny_bind ?_;simp only [newExc,newTuple];refine wpAny_bind (wpAny_newObj_type ?_ (by size_fits));refine wpAny_bind (m:=firstArgMember _ _) (wpAny_of_eq (a:=Value.none) (by first | rfl | (simp only [firstArgMember];rfl)) (wpAny_newObj_type ?_ (by size_fits)));simp only [raiseNew];refine wpAny_bind (wpAny_handled ?_);rw [show A.in1.handled=none from hh]
 refine wpAny_bind (wpAny_pure (wpAny_throw ?_));refine wpAny_bind (wpAny_isInstance (T:="StopIteration") (b:=true) ⟨_,Heap.get?_push_size _ rfl,rfl⟩ isSubtype_stop ?_)
 exact wpAny_pure (q _ (((Heap.SameBut.update ..).extBut.push _).push _))
end
end L2
namespace L2
open PySem PySem.Spec PyProof.Rows
def Ah (o:Obj):Array DictEntry:=match o.data with | .dict es _=>es | _=>#[]
def OB (o:Obj):Nat:=match o.data with | .dict _ ep=>ep | _=>0
def VL:HO->Nat
 | .dK kvs=>kvs.length
 | .dT kvs=>kvs.length
 | _=>0
section
variable {X:Cx} {tg:Expr}
end
end L2
namespace U2
open PySem PySem.Spec PyProof.Rows L2
def keyOf (tk:Bool) (k:List Key):U:=if tk then .tup (k.map kU) else kU (Q9 k)
def OG (tk:Bool) (ks:List (List Key)):List U:=ks.map (keyOf tk)
def Vp (tk:Bool) (ks:List (List Key)) (us:List U):List U:=(ks.zip us).map fun p=>.tup [keyOf tk p.1,p.2]
theorem UJ (tk:Bool) (ks:List (List Key)):(OG tk ks).length=ks.length:=by simp [OG]
section
variable {K:PySem.W.Frag} {H:Hp} {M:aG}
end
section
variable {D:Dat} {tg e:Expr} {te:UE} {pos p:Pos}
end
def Cv (τ:SU) (M:aG) (τ':SU) (M':aG):Prop:=∀ (K:PySem.W.Frag) (H:Hp) (σ:L2.St),RelM K H M->dU K H M σ τ->aQ H M H M'/\RelM K H M'/\dU K H M' σ τ'
def D5 (t:US):US:=fun D τ M=>t { D with nx:=fun τ1 M1=>∃ τ' M',Cv τ1 M1 τ' M'/\D.nx τ' M' } τ M
theorem HW {D:Dat} {s:Stmt} {t:US} (h:pZ D s t):pZ D s (D5 t):=by
 obtain ⟨u,p,q⟩:=h;refine ⟨u,p,fun σ τ H M D' rs rm h D d=>q σ τ H M _ rs rm h D ⟨fun σ1 τ1 H1 M1 s1 rm1 rs1 h1=>?_,d.rt,d.bk,d.ct⟩⟩;obtain ⟨τ',M',c,h2⟩:=h1;obtain ⟨s2,rm2,rs2⟩:=c _ H1 σ1 rm1 rs1;exact d.nx σ1 τ' H1 M' (s1.trans s2) rm2 rs2 h2
section
variable {K:PySem.W.Frag} {H:Hp} {M1 M':aG}
theorem Ge {κ:Type}:∀ {kvs:List (κ × U)} {ws:List (κ × V)} {M:aG},bI K H M kvs ws->kvs.map (·.1)=ws.map (·.1)/\aI K H M (kvs.map (·.2)) (ws.map (·.2))
 | _,_,_,.nil=>⟨rfl,.nil⟩
 | _,_,_,.cons h t=>by
  obtain ⟨h1,h2⟩:=Ge t;refine ⟨?_,.cons h.2 h2⟩;rw [List.map_cons,List.map_cons,h1,h.1]
def B5 (kvs:List (Key × U)):U:=.dic (kvs.map fun e=>[e.1]) false (kvs.map (·.2))
def VQ (kvs:List (List Key × U)):U:=.dic (kvs.map (·.1)) true (kvs.map (·.2))
theorem mR {us:List U} {a:Addr} (rm:RelM K H M1) (h:M1 a=some (.lst us)) (hn:M' a=none) (st:aQ H M1 H M'):aM K H M' (.lst us) (.ref a):=by
 obtain ⟨vs,h1,r⟩:=rm a _ h;exact u0 hn h1 (r.stp st)
theorem F7 {κ:Type} {kvs kvs':List (κ × U)} {ws:List (κ × V)} (r:bI K H M1 kvs ws) (hl:kvs.length=kvs'.length) (h:∀ (i:Nat) p p',kvs[i]?=some p->kvs'[i]?=some p'->p.1=p'.1/\∀ x,aM K H M1 p.2 x->aM K H M' p'.2 x):bI K H M' kvs' ws:=by
 induction r generalizing kvs' with
 | nil=>cases kvs' with
  | nil=>exact .nil
  | cons a r=>simp at hl
 | cons q t ih=>cases kvs' with
  | nil=>simp at hl
  | cons a r =>
   obtain ⟨h1,h2⟩:=h 0 _ _ rfl rfl;exact .cons ⟨h1 ▸ q.1,h2 _ q.2⟩ (ih (by simpa using hl) fun i p p' e1 e2=>h (i + 1) p p' (by simpa using e1) (by simpa using e2))
end
end U2
namespace L2
open PySem PySem.Spec PyProof.Rows
section
variable {X:Cx} {o e f:Expr} {apos cpos:Pos} {td ty tx:TE}
end
end L2
namespace U2
open PySem PySem.Spec PyProof.Rows L2
end U2
namespace L2
open PySem PySem.Spec PyProof.Rows
section
variable {prog:Program} {w:World} {A:Around} {E:Value->Shared->Prop} {s:Shared}
theorem Hb {α β:Type} {R:α->β->Prop}:∀ {l:List α} {r:List β},Paired R l r->l.length=r.length
 | _,_,.nil=>rfl
 | _,_,.cons _ t=>by simp [Hb t]
theorem IT {α β:Type} {R:α->β->Prop} {P:β->Prop} (h:∀ a b,R a b->P b):∀ {l:List α} {r:List β},Paired R l r->∀ b∈r,P b
 | _,_,.nil,b,hb=>by cases hb
 | _,_,.cons x t,b,hb=>by
  rcases List.mem_cons.mp hb with rfl | hb
  ·exact h _ _ x
  ·exact IT h t b hb
theorem Vj (vs:List Value):(vs.toArray.zip vs.toArray).map (·.2)=vs.toArray:=by
 rw [Array.map_snd_zip (Nat.le_refl _)]
open PySem.W in
end
theorem Qd:∀ {ts:List Addr} {us:List Value},Vals (ts.map V.ref) us->us=ts.map Value.ref
 | [],_,r=>by cases r;rfl
 | t :: ts,_,r=>by
  cases r with
  | cons h q=>cases h;rw [Qd q];rfl
end L2
namespace U2
open PySem PySem.Spec PyProof.Rows L2
theorem Ul {K:PySem.W.Frag} {H:Hp} {M:aG}:∀ {ns:List Int} {zs:List V},aI K H M (ns.map U.int) zs->zs=ns.map V.int
 | [],zs,r=>r.inv_nil
 | n :: ns,zs,r=>by
  obtain ⟨w,ws,rfl,c,d⟩:=aI.inv_cons (show aI K H M (.int n :: ns.map U.int) zs from r);rw [c.int,Ul d];rfl
end U2
namespace U2
open PySem L2
def Rn:US:=fun _ _ _=>False
theorem Np {D:Dat} {st:Stmt}:pZ D st Rn:=⟨fun _ _ _=>False,fun X _=>fun _ _ _ _ _ _ h=>h.elim,fun _ _ _ _ _ _ _ h=>h.elim⟩
end U2
namespace L2
open PySem PySem.Spec PyProof.Rows
section
variable {M:Model} {A:Around} {E:Value->Shared->Prop} {s:Shared} {base:Heap} {env:Env} {outer:List Env} {L e:Addr} {oe:Obj} {vs:Array Value}
def Vm (fl:Value->Prop) (h:Heap) (e:Addr) (vs:Array Value) (T:Option Addr):Prop:=match T with
 | none=>vs[1]?=some .none
 | some T=>vs[1]?=some (.ref T)/\T≠e/\∃ oT ts v,h.get? T=some oT/\oT.data=.fields ts/\ts[3]?=some v/\fl v
end
end L2
namespace L2
open PySem PySem.Spec
section
variable {prog:Program} {w:World} {A:Around} {E:Value->Shared->Prop} {h:Heap} {g:Array GenState} {d:Drawn} {t:Nat} {os:OsState}
variable {nm q:Str} {C N:Addr} {bs bm:List Value} {hdct:Bool} {sn:List Str} {sub:List Value} {ab:Bool} {col:Option Bool} {dd:Option Addr} {k0 k1 k2 k3 k5:Option Value}
def Vs:List Value:=[.type "ValueError",.type "Exception",.type "BaseException",.type "object"]
def Ub (h:Heap) (C:Addr) (us:List Value):Heap:=(h.push { cls:=.type "tuple",data:=.seq us.toArray }).push { cls:=.ref C,data:=.fields #[.ref h.objs.size,.none,.none,.none,.bool false,.none] }
theorem Uk (h:Heap) (C:Addr) (us:List Value):∀ b o,h.get? b=some o->(Ub h C us).get? b=some o:=fun b o e=>Heap.get?_push_of_some _ (Heap.get?_push_of_some _ e)
end
open Builtin Builtin.ObjectAttr
section
variable {prog:Program} {w:World} {A:Around} {E:Value->Shared->Prop} {h:Heap} {g:Array GenState} {d:Drawn} {t:Nat} {os:OsState}
variable {nm q:Str} {C N R x:Addr} {bs:List Value} {sn:List Str} {sub:List Value} {ab:Bool} {col:Option Bool} {dd:Option Addr} {k0 k1 k2 k3 k5:Option Value} {K:PySem.W.Frag} {name:Str} {v:Value}
abbrev VW (R:Addr):List Value:=.ref R :: Vs
def U6 (C t:Addr) (dx:Option Addr):Obj:={ cls:=.ref C,dict:=dx,data:=.fields #[.ref t,.none,.none,.none,.bool false,.none] }
end
end L2
namespace L2
open PySem PySem.Spec PyProof.Rows
def VJ (a C:Addr) (dx:Option Addr) (h:Heap):Prop:=∃ t,h.get? a=some (U6 C t dx)
section
variable {P:Program} {w:World} {H:Hp} {h h':Heap} {a d:Addr} {o:HO}
end
section
variable {X:Cx} {e1 e2:Expr} {t1 t2 ta tv:TE} {p pos apos pos':Pos} {r f:Str} {R:Addr}
theorem Vc {H:Hp} {a:Addr} {o:HO} (h:H a=some o):upd H a o=H:=by
 funext b;unfold upd;split
 ·rename_i e;subst e;exact h.symm
 ·rfl
end
structure UW (fl:Value->Prop) (sz:Nat) (nw:Addr->Prop) (h:Heap) (a C d:Addr) (fs:List (Str × V)):Prop where
 sa:sz<=a
 na:nw a
 nd:nw d
 ad:a≠d
 obj:∃ oe vs T,h.get? a=some oe/\oe.cls=.ref C/\oe.dict=some d/\oe.data=.fields vs/\Vm fl h a vs T/\∀ T',T=some T'->sz<=T'/\nw T'/\T'≠d
 att:∃ mA,h.Ns1 d mA/\∀ f,j8 (fs.lookup f) (mA f)
 cx:fs.length=1->∀ oe vs,h.get? a=some oe->oe.data=.fields vs->vs[2]?=some .none
def Vq (X:Cx) (pins:List (Addr × Obj)) (H:Hp) (b:Addr):Prop:=X.s₀.heap.get? b=none/\H b=none/\b≠X.env.locals/\∀ p∈X.pn++pins,p.1≠b
section
variable {X:Cx} {pins:List (Addr × Obj)} {σ:St} {H:Hp} {s:Shared} {a C d:Addr} {fs:List (Str × V)}
def VB (X:Cx) (v:Value):Prop:=v=.none\/v=rawInt X.env.locals
abbrev VC (X:Cx) (pins:List (Addr × Obj)) (H:Hp) (h:Heap) (a C d:Addr) (fs:List (Str × V)):Prop:=UW (VB X) X.s₀.heap.objs.size (Vq X pins H) h a C d fs
end
def Vy (P:Program) (w:World):zR:=fun outer H s E e s'=>∃ a C d fs H',e=.ref a/\s'.os=s.os/\AllBare s'.gens/\Un (jU outer) [] H H' s.heap s'.heap/\fD P w H' s'.heap /\
 UW (fun v=>v=.none) s.heap.objs.size (fun b=>s.heap.get? b=none/\H' b=none) s'.heap a C d fs/\E (.ref C) (some d) (upd H' d (.xd fs))
abbrev XS:=Value->Option Addr->St->Hp->Prop
abbrev Vx:=Ends->XS->St->Hp->Prop
abbrev VH:=St->Hp->VK->XS->Prop
section
variable {X:Cx} {e:Expr} {te:TE} {tx:VH} {st:Stmt} {rest a b:List Stmt} {t u:TS} {t' u':Vx} {pos:Pos}
abbrev VZ (X:Cx):Prop:=X.xe=fun _ _=>False
end
section
variable {X:Cx}
end
section
variable {X:Cx} {pins:List (Addr × Obj)} {σ:St} {H:Hp} {s:Shared}
end
section
variable {X:Cx} {pins pl:List (Addr × Obj)} {σ:St} {H:Hp} {s:Shared} {a C d:Addr} {fs:List (Str × V)}
end
end L2
namespace L2
open PySem PySem.Spec
section
variable {prog:Program} {w:World} {A:Around} {E:Value->Shared->Prop} {h:Heap} {g:Array GenState} {d:Drawn} {t:Nat} {os:OsState} {K:PySem.W.Frag} {a C R fI:Addr} {o:Obj}
end
end L2
namespace U2
open PySem PySem.Spec L2
abbrev Uw:=Addr->List (Str × U)->SU->aG->Prop
abbrev UD:=Addr->List (Str × U)->aG->Prop
abbrev VG:=qE->Uw->SU->aG->Prop
abbrev VA:=SU->aG->UK->Uw->Prop
abbrev Sz:=List U->aG->UK->UD->Prop
def i8:U->Option V
 | .non=>some .non
 | .bl b=>some (.bl b)
 | .int i=>some (.int i)
 | .str x=>some (.str x)
 | _=>none
def Vg (fs':List (Str × U)) (fs:List (Str × V)):Prop:=Paired (fun (p:Str × U) (q:Str × V)=>p.1=q.1/\i8 p.2=some q.2) fs' fs
def Up (K:PySem.W.Frag) (H:Hp) (M:aG) (E':UD) (E:XK):Prop:=∀ C fs' fs H1 M1 d,aQ H M H1 M1->RelM K H1 M1->Vg fs' fs->H1 d=none->E' C fs' M1->E (.ref C) (some d) (upd H1 d (.xd fs))
def Qn (K:PySem.W.Frag) (sp:Sz):Sp:=fun vs H Q E=>∃ us M Q' E',RelM K H M/\aI K H M us vs/\sp us M Q' E'/\c9 K H M Q' Q/\Up K H M E' E
section
variable {D:Dat} {e:Expr} {te:UE} {tx:VA} {st:Stmt} {rest a b:List Stmt} {t u:US} {t' u':VG} {pos:Pos}
structure QE (P:Program) (w:World) (K:PySem.W.Frag) (mg:Str->Option Value) (base:Heap) (j:Nat) (x:Str) (sp:Sz) (dus:List U):Prop where
 ex:∃ f fd ps dvs ds,fY P w K mg base (Vy P w) j f fd ps (Qn K sp)/\mg x=some (.ref f)/\PySem.W.keepIn K (.ref f)=true/\Binds K fd ps ds/\Vals dvs ds/\∀ H M,aI K H M dus dvs
abbrev VP (D:Dat):=QE D.prog D.w D.K D.mg D.base
end
section
variable {P:Program} {w:World} {K:PySem.W.Frag} {mg:Str->Option Value} {base:Heap}
end
def Va:V->U
 | .non=>.non
 | .bl b=>.bl b
 | .int i=>.int i
 | .str x=>.str x
 | .ref a=>.ref a
 | .ty n=>.ty n
 | _=>.lst []
theorem TQ {u:U} {v:V} (e:i8 u=some v):u=Va v:=by
 cases u <;> first | (cases e;rfl) | cases e
section
variable {D:Dat} {a0 C:Addr} {F:List (Str × U)} {e:Expr} {te:UE} {es:List Expr} {tas:UA} {pos:Pos} {st:Stmt} {sts:List Stmt} {t u:US}
def IH:V->Value
 | .ref a=>.ref a
 | .ty n=>.type n
 | _=>.none
theorem MI {v:V} {u:Value} (r:RelV v u) (n:IH v≠.none):u=IH v:=by
 cases v <;> first | exact r | exact absurd rfl n
theorem Ju:∀ {vs:List V} {us:List Value},Vals vs us->(∀ v∈vs,IH v≠.none)->us=vs.map IH
 | _,_,.nil,_=>rfl
 | _,_,.cons r t,n=>by rw [MI r (n _ List.mem_cons_self),Ju t fun v hv=>n v (List.mem_cons_of_mem _ hv)];rfl
end
open PyProof.Rows
end U2
namespace L2
open PySem PySem.Spec PyProof.Rows
theorem O2:∀ {Ts:List String} {us:List Value},Vals (Ts.map V.ty) us->us=Ts.map Value.type
 | [],_,r=>by cases r;rfl
 | T :: Ts,_,r=>by
  cases r with
  | cons h t=>cases h;rw [O2 t];rfl
end L2
namespace U2
open PySem PySem.Spec PyProof.Rows L2
def B8:List U->Option (List String)
 | []=>some []
 | .ty T :: r=>(B8 r).map (T :: ·)
 | _=>none
theorem NP {K:PySem.W.Frag} {H:Hp} {M:aG}:∀ {us:List U} {vs:List V} {Ts:List String},aI K H M us vs->B8 us=some Ts->vs=Ts.map V.ty
 | [],vs,Ts,r,e=>by
  simp only [B8] at e;cases e;simp only [aI] at r;rw [r];rfl
 | u :: us,vs,Ts,r,e=>by
  simp only [aI] at r;obtain ⟨v,vs',rfl,a,b⟩:=r
  cases u with
  | ty T =>
   simp only [B8] at e
   cases e2:B8 us with
   | none=>rw [e2] at e;cases e
   | some Ts' =>
    rw [e2] at e;cases e;rw [a.ty,NP b e2];rfl
  | _=>simp only [B8] at e;cases e
def Vb (t:String):List String->Option Bool
 | []=>some false
 | T :: r=>match bF t T with
  | some true=>some true
  | some false=>Vb t r
  | none=>none
end U2
namespace L2
open PySem PySem.Spec PyProof.Rows
section
variable {prog:Program} {w:World} {A:Around} {E:Value->Shared->Prop} {s:Shared}
end
end L2
namespace U2
open PySem PySem.Spec PyProof.Rows L2
section
variable {prog:Program} {w:World} {A:Around} {E:Value->Shared->Prop} {s:Shared} {r:Addr} {a b:Int} {t u v:Tok}
end
section
variable {X:Cx} {tg a b e:Expr} {ta:TA} {te:TE} {p pos:Pos}
end
section
variable {D:Dat} {tg a b:Expr} {p p2 pos pos2:Pos} {ta:UA}
end
section
variable {X:Cx}
theorem Lh (hc:X.calm=true):kT X (.builtin "sum") (fun xs H Q=>∃ (p:Addr) (ns:List Int),xs=[.ref p]/\eR X.K H p (ns.map V.int)/\Q (.int ns.sum) H):=by
 intro pins s σ H xs us Q I r h;obtain ⟨p,ns,rfl,hq,q⟩:=h;obtain ⟨u,rfl,rx⟩:=vals1 r;cases rx;obtain ⟨its,r',pl,hz⟩:=I.list hq;have hi:IntsAre its ns:=intsAre_of r';obtain ⟨ys,e⟩:=hi.allInts.items
 have hns:ns=ys.toList.map (·.1):=by
  rw [<- hi.numsOf,<- nums_intItems,<- e]
 have hl:=pl.isList;rw [e] at hl;subst hns;refine sum_intListG (I.ok.hd hc) hl fun h' tk t' hk=>?_
 ·refine ⟨.int _,H,I.kept hk,⟨t',?_⟩,q⟩
  rw [preSum_eq,List.take_of_length_le (by simp)]
def Ds:List U->aG->UK->Prop:=fun us M Q=>match us with
 | [x]=>match view M x with
  | .lst ws=>∃ ns,intsOf ws=some ns/\Q (.int ns.sum) M
  | _=>False
 | _=>False
theorem JW {D:Dat}:CL D (.builtin "sum") Ds:=⟨⟨_,fun X h=>by
  have:=(Lh (X:=X) h.calm);rw [h.K] at this;exact this,fun xs us H M Q' rm rus h Q c=>by
 unfold Ds at h;split at h
 ·rename_i x
  obtain ⟨v,rfl,a1⟩:=rus.one;split at h
  ·rename_i ws e
   obtain ⟨ns,e2,q⟩:=h;obtain ⟨b,zvs,rfl,s2,r2⟩:=fG rm a1 e;rw [nJ r2 e2] at s2;exact ⟨b,ns,rfl,s2,c.here rm c8 q⟩
  ·exact h.elim
 ·exact h.elim⟩⟩
end
end U2
namespace L2
open PySem PySem.Spec PyProof.Rows
def BZ (σ:List Str) (v:Str):List Str:=if σ.any (· == v) then σ else σ++[v]
def GX (l:List Str):List Str:=l.foldl BZ []
theorem LQ (l:List Str) (v:Str):GX (l++[v])=BZ (GX l) v:=by simp [GX,List.foldl_append]
theorem U3 (σ:List Str) (v:Str):(BZ σ v).length=if σ.any (· == v) then σ.length else σ.length + 1:=by
 unfold BZ;split <;> simp
theorem Nb (σ:List Str) (v k:Str):(BZ σ v).any (· == k)=(σ.any (· == k) || decide (k=v)):=by
 unfold BZ
 by_cases h:σ.any (· == v)=true
 ·rw [if_pos h]
  by_cases e:k=v
  ·subst e;simp [h]
  ·simp [e]
 ·rw [if_neg h,List.any_append]
  by_cases e:k=v
  ·subst e;simp
  ·have:(v == k)=false:=by simpa using fun z:v=k=>e z.symm
   simp [this,e]
theorem snoc_ind {P:List Str->Prop} (h0:P []) (h1:∀ l v,P l->P (l++[v])) (l:List Str):P l:=by
 have:∀ r:List Str,P r.reverse:=by
  intro r
  induction r with
  | nil=>exact h0
  | cons a r ih=>rw [List.reverse_cons];exact h1 _ _ ih
 have:=this l.reverse
 rwa [List.reverse_reverse] at this
theorem Vi (l:List Str) (k:Str):(GX l).any (· == k)=decide (k∈l):=by
 refine snoc_ind (P:=fun l=>(GX l).any (· == k)=decide (k∈l)) (by simp [GX]) (fun l v ih=>?_) l;rw [LQ,Nb,ih];by_cases h:k∈l <;> by_cases e:k=v <;> simp [h,e]
section
variable {prog:Program} {w:World} {A:Around} {I:Addr} {fp wr:List Addr} {G:Array GenState->Array GenState->Prop} {n:Nat} {P:Nat->Value->Prop} {St:Nat->Shared->Prop} {R:Result->Shared->Prop}
end
section
variable {prog:Program} {w:World} {A:Around} {E:Value->Shared->Prop} {s:Shared}
end
section
variable {X:Cx} {a:Expr} {ta:TA} {p p2 pos pos2:Pos}
end
end L2
namespace U2
open PySem PySem.Spec PyProof.Rows L2
theorem FO {K:PySem.W.Frag} {H:Hp} {M:aG}:∀ {ss:List Str} {vs:List V},aI K H M (ss.map U.str) vs->vs=ss.map V.str
 | [],vs,r=>r.inv_nil
 | s :: ss,vs,r=>by
  obtain ⟨v,vs',rfl,a,b⟩:=aI.inv_cons r;rw [a.str,FO b];rfl
section
variable {D:Dat} {a:Expr} {ta:UA} {pos p p2 pos2:Pos}
end
end U2
namespace L2
open PySem PySem.Spec PyProof.Rows
section
variable {prog:Program} {w:World} {A:Around} {E:Value->Shared->Prop} {s:Shared}
end
section
variable {X:Cx} {a:Expr} {ta:TA} {p p2 pos pos2:Pos}
end
end L2
namespace U2
open PySem PySem.Spec PyProof.Rows L2
section
variable {D:Dat} {a:Expr} {ta:UA} {pos p p2 pos2:Pos}
end
section
variable {prog:Program} {w:World} {A:Around} {E:Value->Shared->Prop} {s:Shared}
end
structure qK (P:Program) (w:World) (K:PySem.W.Frag) (mg:Str->Option Value) (base:Heap) (j:Nat) (C:Addr) (m:Str) (sp:bE):Prop where
 ex:∃ f fd ps,fY P w K mg base mB j f fd ps (cP K sp)/\Meth K C m f/\Binds K fd ps []
structure oJ (P:Program) (w:World) (K:PySem.W.Frag) (mg:Str->Option Value) (base:Heap) (j:Nat) (x:Str) (C:Addr) (sp:bE):Prop where
 ex:∃ f fd ps,fY P w K mg base mB j f fd ps (cP K sp)/\Mk K C f/\Binds K fd ps []/\mg x=some (.ref C)
def cK (C:Addr) (f:Str) (x:U) (M:aG):Option U:=match x with
 | .ref a=>match M a with
  | some (.ins C' _ fs)=>if C'=C then fs.lookup f else none
  | _=>none
 | _=>none
theorem bS {C a dx:Addr} {f:Str} {M:aG} {fs:List (Str × U)} (h:M a=some (.ins C dx fs)):cK C f (.ref a) M=fs.lookup f:=by
 simp only [cK,h,if_pos]
def nB (f:Str) (v:U):List (Str × U)->List (Str × U)
 | []=>[(f,v)]
 | (g,u) :: r=>if g=f then (g,v) :: r else (g,u) :: nB f v r
section
variable {K:PySem.W.Frag} {H:Hp} {M:aG}
theorem bI.look {f:Str} {u:U}:∀ {fs:List (Str × U)} {ws:List (Str × V)},bI K H M fs ws->fs.lookup f=some u->∃ v,ws.lookup f=some v/\aM K H M u v
 | _,_,.nil,h=>by cases h
 | (g,x) :: fs,(g',y) :: ws,.cons h t,e=>by
  obtain ⟨rfl,h2⟩:=h;rw [List.lookup_cons] at e ⊢;dsimp only at e ⊢
  cases q:f == g with
  | true=>rw [q] at e;cases e;exact ⟨y,rfl,h2⟩
  | false=>rw [q] at e;exact bI.look t e
theorem bI.lookN {f:Str}:∀ {fs:List (Str × U)} {ws:List (Str × V)},bI K H M fs ws->fs.lookup f=none->ws.lookup f=none
 | _,_,.nil,h=>rfl
 | (g,x) :: fs,(g',y) :: ws,.cons h t,e=>by
  obtain ⟨rfl,h2⟩:=h;rw [List.lookup_cons] at e ⊢;dsimp only at e ⊢
  cases q:f == g with
  | true=>rw [q] at e;cases e
  | false=>rw [q] at e;exact bI.lookN t e
theorem bI.putF {f:Str} {u:U} {v:V} (r:aM K H M u v):∀ {fs:List (Str × U)} {ws:List (Str × V)},bI K H M fs ws->bI K H M (nB f u fs) (L2.putF f v ws)
 | _,_,.nil=>.cons ⟨rfl,r⟩ .nil
 | (g,x) :: fs,(g',y) :: ws,.cons h t=>by
  obtain ⟨h1,h2⟩:=h;cases h1;simp only [nB,L2.putF]
  by_cases q:g=f
  ·rw [if_pos q,if_pos q];exact .cons ⟨rfl,r⟩ t
  ·rw [if_neg q,if_neg q];exact .cons ⟨rfl,h2⟩ (bI.putF r t)
theorem bI.len {κ:Type}:∀ {fs:List (κ × U)} {ws:List (κ × V)},bI K H M fs ws->fs.length=ws.length
 | _,_,.nil=>rfl
 | _,_,.cons _ t=>by simp only [List.length_cons];rw [bI.len t]
end
def fX (C:Addr) (f:Str) (ta:UE):UE:=fun τ M Q=>ta τ M fun x M1=>match cK C f x M1 with
 | some u=>Q u M1
 | none=>False
def m5 (C:Addr) (f:Str) (ta tv:UE):US:=fun D τ M=>tv τ M fun y M1=>ta τ M1 fun x M2=>match x with
 | .ref a=>match M2 a with
  | some (.ins C' dx fs)=>C'=C/\fs.length < 1000/\D.nx τ (mup M2 a (.ins C dx (nB f y fs)))
  | _=>False
 | _=>False
def Aq (C:Addr) (m:Str) (sp:bE) (ta:UE) (t:UA):UE:=fun τ M Q=>ta τ M fun x M1=>match x with
 | .ref a=>match M1 a with
  | some (.ins C' _ fs)=>C'=C/\fs.lookup m=none/\t τ M1 fun us M2=>sp (.ref a :: us) M2 Q
  | _=>False
 | _=>False
def AY (C:Addr) (sp:bE) (t:UA):UE:=fun τ M Q=>t τ M fun us M1=>∀ x dx,M1 x=none->M1 dx=none->dx≠x->sp (.ref x :: us) (mup M1 x (.ins C dx [])) (fun u M2=>u=.non/\Q (.ref x) M2)
section
variable {K:PySem.W.Frag}
variable {C:Addr} {f:Str}
theorem RB {H:Hp} {M:aG} {x u:U} {v:V} (rm:RelM K H M) (r:aM K H M x v) (h:cK C f x M=some u):∃ a dx fs y,v=.ref a/\H a=some (.ins C dx fs)/\fs.lookup f=some y/\aM K H M u y:=by
 unfold cK at h;split at h
 ·rename_i a
  split at h
  ·rename_i C' dx fs e
   split at h
   ·rename_i hc
    subst hc;obtain ⟨ws,h1,h2⟩:=rm a _ e;obtain ⟨y,h3,h4⟩:=h2.look h;exact ⟨a,dx,ws,y,r.ref,h1,h3,h4⟩
   ·cases h
  ·cases h
 ·cases h
variable {ta:TE} {ta':UE}
theorem PD (hc:fT K C) (hn:bL K C f) (h:bR K ta ta'):bR K (Sm K ta f) (fX C f ta'):=fun σ τ H M Q' rs rm q Q c =>
 h σ τ H M _ rs rm q _ fun x v M1 H1 s1 rm1 ru h1=>by
  split at h1
  ·rename_i u e
   obtain ⟨a,dx,fs,y,rfl,h2,h3,h4⟩:=RB rm1 ru e;exact ⟨a,C,dx,fs,y,rfl,h2,hc,hn,h3,c u y M1 H1 s1 rm1 h4 h1⟩
  ·exact h1.elim
theorem Nr {tv:TE} {tv':UE} (hc:fT K C) (hn:bL K C f) (h:bR K ta ta') (hv:bR K tv tv'):k6 K (Tq K ta tv f) (m5 C f ta' tv'):=fun σ τ H M D' rs rm q D d =>
 hv σ τ H M _ rs rm q _ fun y w M1 H1 s1 rm1 ry h1=>h σ τ H1 M1 _ (rs.stp s1) rm1 h1 _ fun x v M2 H2 s2 rm2 ru h2=>by
  split at h2
  ·rename_i a
   split at h2
   ·rename_i C' dx fs e
    obtain ⟨rfl,hl,hq⟩:=h2;obtain ⟨ws,h3,h4⟩:=rm2 a _ e;have st:aQ H2 M2 (upd H2 a (.ins C' dx (L2.putF f w ws))) (mup M2 a (.ins C' dx (nB f y fs))):=aQ.write e;refine ⟨a,C',dx,ws,ru.ref,h3,hc,hn,by rw [<- h4.len];exact hl,?_⟩;exact d.nx σ τ _ _ ((s1.trans s2).trans st) (rm2.put st ⟨_,bY,(h4.stp st).putF ((ry.stp s2).stp st)⟩) (((rs.stp s1).stp s2).stp st) hq
   ·exact h2.elim
  ·exact h2.elim
variable {sp:bE} {t':UA} {E:XK}
theorem Mr {m:Str} {t:TA} (h:bR K ta ta') (ht:lA K t t'):bR K (Hl C m (cP K sp) [] E ta t) (Aq C m sp ta' t'):=fun σ τ H M Q' rs rm q Q c =>
 h σ τ H M _ rs rm q _ fun x v M1 H1 s1 rm1 ru h1=>by
  split at h1
  ·rename_i a
   split at h1
   ·rename_i C' dx fs e
    obtain ⟨rfl,hl,hq⟩:=h1;obtain ⟨ws,h3,h4⟩:=rm1 a _ e;cases ru.ref;refine ⟨a,dx,ws,rfl,h3,h4.lookN hl,ht σ τ H1 M1 _ (rs.stp s1) rm1 hq _ fun us vs M2 H2 s2 rm2 rus h2=>?_⟩;exact ⟨.ref a :: us,M2,Q',rm2,.cons i6 (by rw [List.append_nil];exact rus),h2,c9.stp c (s1.trans s2)⟩
   ·exact h1.elim
  ·exact h1.elim
theorem LA {t:TA} (ht:lA K t t'):bR K (HM C (cP K sp) [] E t) (AY C sp t'):=fun σ τ H M Q' rs rm q Q c =>
 ht σ τ H M _ rs rm q _ fun us vs M1 H1 s1 rm1 rus h1=>fun x dx hx hd ne=>by
  have q1:=h1 x dx (rm1.no hx) (rm1.no hd) ne;have st1:aQ H1 M1 (upd H1 dx (.own x)) M1:=aQ.laid rm1 hd;have rm2:RelM K (upd H1 dx (.own x)) M1:=rm1.laid hd;have hx2:upd H1 dx (.own x) x=none:=by rw [bK (Ne.symm ne)];exact hx
  have cO:aQ (upd H1 dx (.own x)) M1 (upd (upd H1 dx (.own x)) x (.ins C dx [])) (mup M1 x (.ins C dx [])):=aQ.own rm2 hx2;have rm3:RelM K (upd (upd H1 dx (.own x)) x (.ins C dx [])) (mup M1 x (.ins C dx [])):=rm2.put cO ⟨[],bY,.nil⟩;refine ⟨.ref x :: us,_,_,rm3,.cons i6 (by rw [List.append_nil];exact (rus.stp st1).stp cO),q1,fun u v M2 H2 s2 rm4 ru hq=>?_⟩;obtain ⟨rfl,hq⟩:=hq;exact ⟨ru.non,c (.ref x) _ M2 H2 (((s1.trans st1).trans cO).trans s2) rm4 i6 hq⟩
end
section
variable {D:Dat} {a b c e o value:Expr} {ta tb tc te:UE} {pos p pos' apos:Pos} {es:List Expr} {tas:UA} {x f:Str} {C:Addr}
theorem cH (hc:fT D.K C) (hn:bL D.K C f) (he:aT D e ta) (hb:∀ env,attributeBase e f env (eval e env)=eval e env:=by intro _;rfl):aT D (.Attribute e f pos) (fX C f ta):=by
 obtain ⟨_,q,s⟩:=he;exact ⟨_,fun X h=>by have:=Rz (pos:=pos) (f:=f) (q X h) (hb _);rw [h.K] at this;exact this,PD hc hn s⟩
theorem mX (hc:fT D.K C) (hn:bL D.K C f) (ho:aT D o ta) (hv:aT D value te) (hs:∀ env,swapsWith value (some (.Attribute o f pos')) pos.line env=pure false:=by intro _;rfl):pZ D (.Assign [.Attribute o f pos'] value pos) (m5 C f ta te):=by
 obtain ⟨_,q,s⟩:=ho;obtain ⟨_,q2,s2⟩:=hv;exact ⟨_,fun X h=>by have:=QX (pos:=pos) (pos':=pos') (f:=f) (q X h) (q2 X h) (hs _);rw [h.K] at this;exact this,Nr hc hn s s2⟩
variable {sp:bE} {j:Nat}
theorem B3 {m:Str} {pl:Env->Sem Bool} (F:qK D.prog D.w D.K D.mg D.base j C m sp) (hc:fT D.K C) (ho:aT D o ta) (ha:mP D (e :: es) tas) (hj:j<=D.k:=by first | exact Nat.le_refl _ | (dsimp only;omega) | omega | (dsimp only [bZ];omega))
  (he:∀ env,starEach (e :: es) env=(false,eval e env) :: starEach es env:=by intro _;rfl) (hpl:∀ env,(backTo pos (starEach es env)).any (·.1)=false:=by intro _;rfl)
  (ht:∀ env,eval (.Call (.Attribute o m apos) (e :: es) [] pos) env=(do
   let ov <- eval o env
   standAt apos.atName
   let (f,first) <- holding [ov] (getMethod ov m (pl env))
   callWith pos f first (backTo pos (starEach (e :: es) env)) (backToKw pos (keywordEach [] env))):=by intro _;rfl) :
  aT D (.Call (.Attribute o m apos) (e :: es) [] pos) (Aq C m sp ta tas):=by
 obtain ⟨f,fd,ps,F,hm,hb⟩:=F.ex;obtain ⟨_,q,s⟩:=ho;obtain ⟨_,q2,s2⟩:=ha;refine ⟨Hl C m (cP D.K sp) [] E0 _ _,fun X h=>?_,Mr s s2⟩;have F':fY X.prog X.w X.K X.mg X.base mB j f fd ps (cP D.K sp):=by rw [h.prog,h.w,h.K,h.mg,h.base];exact F
 exact P7 (pl:=pl X.env) (q X h) (by rw [h.K];exact hc) (by rw [h.K];exact hm) F' (h.room.mono hj) (by rw [h.K];exact hb) .nil AV (q2 X h) (he _) (hpl _) (ht _)
theorem Cb (F:oJ D.prog D.w D.K D.mg D.base j x C sp) (ha:mP D (e :: es) tas) (hj:j + 1<=D.k:=by first | exact Nat.le_refl _ | (dsimp only;omega) | omega | (dsimp only [bZ];omega)) (hg:D.sc.names.lookup x=some .globalImplicit:=by rfl) (hdb:(x == ("__debug__":Str))=false:=by decide)
  (he:∀ env,starEach (e :: es) env=(false,eval e env) :: starEach es env:=by intro _;rfl) (hpl:∀ env,(backTo pos (starEach es env)).any (·.1)=false:=by intro _;rfl):aT D (.Call (.Name x p) (e :: es) [] pos) (AY C sp tas):=by
 obtain ⟨f,fd,ps,F,hM,hb,hm⟩:=F.ex;obtain ⟨_,q,s⟩:=ha;refine ⟨HM C (cP D.K sp) [] E0 _,fun X h=>?_,LA s⟩;have F':fY X.prog X.w X.K X.mg X.base mB j f fd ps (cP D.K sp):=by rw [h.prog,h.w,h.K,h.mg,h.base];exact F
 exact Pu (by rw [h.K];exact hM) F' (h.room.mono hj) (by show X.env.scope.names.lookup x=_;rw [h.sc];exact hg) (by rw [h.mg];exact hm) (by rw [h.K];exact hb) .nil AV (q X h) hdb (he _) (hpl _)
end
section
variable {P:Program} {w:World} {K:PySem.W.Frag} {mg:Str->Option Value} {base:Heap}
variable {x qn:Str} {st:Stmt} {f:Addr} {fd:FuncData} {N ps:List Str} {sp:bE}
theorem Kn {k:Nat} {t:US} (F:cI K x qn st f fd) (S:aV N ps (aL st))
  (len:∀ us M Q,sp us M Q->us.length=ps.length)
  (h:mI ⟨P,w,K,mg,base,N,aL st,k,true,.none,""⟩ (cA st) t)
  (q:∀ us M Q,sp us M Q->t { nx:=fun _ M'=>kF Q .non M',rt:=kF Q } (dW N us) M):fY P w K mg base mB (k + 1) f fd ps (cP K sp):=by
 obtain ⟨t0,h1,h2⟩:=h;refine F.ok S (fun vs H Q E ⟨us,M,Q',_,r,hs,_⟩=>by rw [<- r.length];exact len us M Q' hs) (fun cdv A outer s H vs Q E hr ⟨us,M,Q',rm,r,hs,c⟩=>?_);refine ⟨t0,h1 _ ⟨rfl,rfl,rfl,rfl,rfl,rfl,rfl,hr,rfl,rfl,fun _ _=>rfl,fun h=>absurd rfl h,fun _=>⟨rfl,rfl,rfl⟩⟩,?_⟩;refine h2 _ (dW N us) H M _ (sA r) rm (q us M Q' hs) _ ⟨fun σ τ H1 M1 s1 rm1 rs1 q1=>?_,fun u v H1 M1 s1 rm1 ru q1=>kF.ok c s1 rm1 ru q1,fun _ _ _ _ _ _ _ z=>z.elim,fun _ _ _ _ _ _ _ z=>z.elim⟩;exact kF.ok c s1 rm1 mL q1
variable {C:Addr}
theorem Bc {k:Nat} {t:US} (F:cI K x qn st f fd) (hm:Meth K C x f) (S:aV N ps (aL st))
  (bind:∀ (kV doc pm:Value) (an:Option Addr) (cdv ct:Value) (us:List Value),us.length=ps.length->bindArgs (PySem.W.fnOf x qn (dJ st) (cA st) (aL st) .none kV doc pm an cdv ct) ⟨us,[]⟩=pure (ps.zip us))
  (len:∀ us M Q,sp us M Q->us.length=ps.length)
  (h:mI ⟨P,w,K,mg,base,N,aL st,k,true,.none,""⟩ (cA st) t)
  (q:∀ us M Q,sp us M Q->t { nx:=fun _ M'=>kF Q .non M',rt:=kF Q } (dW N us) M):qK P w K mg base (k + 1) C x sp :=
 ⟨f,fd,ps,Kn F S len h q,hm,F.binds bind⟩
theorem A3 {cn:Str} {k:Nat} {t:US} (F:cI K x qn st f fd) (hM:Mk K C f) (hg:mg cn=some (.ref C)) (S:aV N ps (aL st))
  (bind:∀ (kV doc pm:Value) (an:Option Addr) (cdv ct:Value) (us:List Value),us.length=ps.length->bindArgs (PySem.W.fnOf x qn (dJ st) (cA st) (aL st) .none kV doc pm an cdv ct) ⟨us,[]⟩=pure (ps.zip us))
  (len:∀ us M Q,sp us M Q->us.length=ps.length)
  (h:mI ⟨P,w,K,mg,base,N,aL st,k,true,.none,""⟩ (cA st) t)
  (q:∀ us M Q,sp us M Q->t { nx:=fun _ M'=>kF Q .non M',rt:=kF Q } (dW N us) M):oJ P w K mg base (k + 1) cn C sp :=
 ⟨f,fd,ps,Kn F S len h q,hM,F.binds bind,hg⟩
end
def Oo (T:List (Str × Fl)):It:=⟨fun i _=>i < T.length,fun i H x H'=>H'=H/\∃ p,T[i]?=some p/\x=.str p.1,fun i _=>T.length<=i⟩
theorem Ck {P:Program} {w:World}:∀ {es:List DictEntry} {kvs:List (Str × Value)} {T:List (Str × Fl)},Pairs (PySem.strKind P w) es kvs->PyProof.V.FlatPairs PyData.str kvs (Ie T)->es.length=T.length/\∀ (i:Nat) (e:DictEntry),es[i]?=some e->∃ p,T[i]?=some p/\RelV (.str p.1) e.key
 | _,_,[],.nil,_=>⟨rfl,fun i e h=>by simp at h⟩
 | _,_,(a,b) :: T,.nil,h=>by cases h
 | _,_,[],.cons _ _ _,h=>by cases h
 | _,_,(a,b) :: T,.cons (e:=e0) h1 h2 t,h=>by
  cases h with
  | cons h3 h4 =>
   obtain ⟨hl,ih⟩:=Ck t h4;refine ⟨by simp [hl],fun i e h=>?_⟩
   cases i with
   | zero =>
    simp at h;subst h
    refine ⟨_,rfl,?_⟩;obtain ⟨tk,q⟩:=Value.isStrOf_shape h1;exact ⟨tk,q⟩
   | succ j=>simpa using ih j e (by simpa using h)
variable {P:Program} {w:World} {K:PySem.W.Frag} {T:List (Str × Fl)} {o:Obj}
theorem BU {d:Addr} {h:Heap} (t:kR P w K d T) (ho:K.lookup d=some o) (hk:K.In h):yD h d (Ah o) (OB o)/\(Ah o).size=T.length/\(d == sysModules)=false/\∀ (i:Nat) en,(Ah o)[i]?=some en->∃ p,T[i]?=some p/\RelV (.str p.1) en.key:=by
 obtain ⟨lo,kvs,⟨o',es,ep,g,c,dd,kk,pp,nn⟩,hf⟩:=t.at_ h hk;rw [hk _ _ ho] at g;cases g;have e1:Ah o=es:=by unfold Ah;rw [dd]
 have e2:OB o=ep:=by unfold OB;rw [dd]
 obtain ⟨hl,pr⟩:=Ck pp hf;rw [e1,e2];exact ⟨⟨o,hk _ _ ho,c,dd⟩,by simpa using hl,lo,fun i en hi=>pr i en (by rw [Array.getElem?_toList];exact hi)⟩
variable {tg:Expr}
theorem NN (d it:Addr) (o:Obj) (t:kR P w K d T) (ho:K.lookup d=some o):Turn P w K tg (Oo T) [it] it (fun i h=>h.IsKeyIter it d i (Ah o).size (OB o)) where
 mem:=by simp
 obj:=fun i h st b hb=>by
  have e:b=it:=by simpa using hb
  subst e;obtain ⟨o,e,c,d⟩:=st;exact ⟨o,e,fun v z=>by rw [d] at z;cases z⟩
 keep:=fun i h h' st k=>st.at fun o e=>k it (by simp) o e
 item:=by
  intro X hP hw hK hc i pins s σ H E I hf st hg;subst hP hw hK;obtain ⟨raw,hlen,hs,at'⟩:=BU t ho I.kIn;obtain ⟨f0,f1,f2,f3,f4,f5⟩:=hf it (by simp);have hil:i < (Ah o).size:=by rw [hlen];exact hg
  obtain ⟨p,hk,rk⟩:=at' i _ (Array.getElem?_eq_getElem hil);refine LS st raw (Array.getElem?_eq_getElem hil) fun h' st' sb=>?_;have I1:Inv X pins σ H { s with heap:=h' }:=I.turned (t':=s.toks) (fun b o hb e=>(sb.2 b hb).trans e) f0 f1 f3 f4 f5;obtain ⟨ob,e,c,dd⟩:=id st';exact ⟨_,rfl,yW (s:={ s with heap:=h' }) e c dd (by decide) ⟨.str p.1,H,I1,rk,⟨rfl,p,hk,rfl⟩,st',fun b hb=>(hf b hb).1⟩⟩
 done:=by
  intro X hP hw hK hc i pins s σ H E I hf st hg;subst hP hw hK;obtain ⟨raw,hlen,hs,at'⟩:=BU t ho I.kIn;obtain ⟨f0,f1,f2,f3,f4,f5⟩:=hf it (by simp);exact QC (I.ok.hd hc) st raw (Array.getElem?_eq_none (by rw [hlen];exact hg)) fun h' eb=>⟨rfl,I.turned (t':=s.toks) (fun b o hb e=>eb b o hb e) f0 f1 f3 f4 f5⟩
 self:=fun _ _ _ _ _ st h=>wpAny_pyIter_keyiter st h
def Rq (d:Addr) (T:List (Str × Fl)) (tl:TE):TI:=fun σ H R=>tl σ H fun x H1=>x=.ref d/\R (Oo T) H1
variable {X:Cx}
theorem To {l:Expr} {tl:TE} {d:Addr} (t:kR X.prog X.w X.K d T) (ho:X.K.lookup d=some o) (hl:PE X l tl):PI X tg l (Rq d T tl):=by
 intro pins s σ H R I h;refine bD (hl pins s σ H _ I h) fun v s1 ⟨x,H1,I1,r1,q1⟩=>?_;obtain ⟨e,hq⟩:=q1;subst e;cases r1;obtain ⟨raw,hlen,hs,_⟩:=BU t ho I1.kIn;refine MZ hs raw ?_;refine ⟨s1.heap.objs.size,[s1.heap.objs.size],_,_,H1,rfl,I1.kept (t':=s1.toks) fun b o e=>Heap.get?_push_of_some _ e,NN d _ o t ho,⟨_,Heap.get?_push_size _ rfl,rfl,rfl⟩,fun b hb=>?_,hq⟩;have e:b=s1.heap.objs.size:=by simpa using hb
 subst e;exact I1.fpOk (Nat.le_refl _) (I1.hok.fresh (Nat.le_refl _))
def HF (d:Addr) (T:List (Str × Fl)) (te:UE):UI:=fun τ M R=>te τ M fun x M1=>match x with
 | .ref a=>a=d/\R ⟨none,T.map fun p=>.str p.1⟩ M1
 | _=>False
theorem Qk {d:Addr} {t:TE} {t':UE} (h:bR K t t'):sV K (Rq d T t) (HF d T t'):=fun σ τ H M R' rs rm q R c=>h σ τ H M _ rs rm q _ fun x v M1 H1 s1 rm1 ru h1=>by
 cases x with
 | ref a =>
  obtain ⟨rfl,h1⟩:=h1;refine ⟨ru.ref,c _ _ M1 H1 s1 rm1 ⟨fun H2 M2 s rm2 _ i w ew=>?_,fun H2 M2 s rm2 _=>?_⟩ h1⟩
  ·simp only [List.getElem?_map,Option.map_eq_some_iff] at ew
   obtain ⟨p,e1,rfl⟩:=ew;refine ⟨(List.getElem?_eq_some_iff.mp e1).1,fun x H3 y=>?_⟩;obtain ⟨rfl,p',e2,rfl⟩:=y;rw [e1] at e2;cases e2;exact ⟨aQ.refl _ _,rm2,mM⟩
  ·show T.length<=(T.map _).length
   rw [List.length_map];exact Nat.le_refl _
 | _=>exact h1.elim
variable {e:Expr}
theorem Qs {D:Dat} {te:UE} {d:Addr} (t:kR D.prog D.w D.K d T) (ho:∃ o,D.K.lookup d=some o) (h:aT D e te):zO D tg e (HF d T te):=by
 obtain ⟨_,q,s⟩:=h;obtain ⟨o,ho⟩:=ho;exact ⟨_,fun X h=>To (o:=o) (by rw [h.prog,h.w,h.K];exact t) (by rw [h.K];exact ho) (q X h),Qk s⟩
def F2 (K:PySem.W.Frag):V->List V->Hp->VK->Prop:=fun x vs H Q=>∃ p xs y ds d j,x=.ref p/\vs=[y]/\eR K H p xs/\cU K H ds xs/\gI K H d y/\PyData.canLayAll0 ds=true/\d.canLay0=true/\d.depth<=60 /\
 (∃ e,ds[j]?=some e/\PyData.eqv e d=true)/\(∀ m e,m < j->ds[m]?=some e->PyData.eqv e d=false)/\Q (.int (j:Nat)) H
open Classical in
theorem KG {k:Nat} (hr:cV k X.A):JF X "list.index" (F2 X.K):=by
 intro pins s σ H x vs v us Q I rx rv h;obtain ⟨p,xs,y,ds,d,j,rfl,rfl,hq,hds,hd,c1,c2,hdep,⟨e,he1,he2⟩,hno,q⟩:=h;cases rx;obtain ⟨u,rfl,ru⟩:=rv.one;obtain ⟨its,r,pl,hz⟩:=I.list hq;obtain ⟨⟨cls,dd,data,sl⟩,n,ho,hc,_,hdt⟩:=pl;simp only at hc hdt;subst hc hdt;have hl:ds.length=its.length:=by rw [hds.len,r.length]
 obtain ⟨bs,rb⟩:=hd.reads I ru
 have key:∀ (j:Nat) (d':PyData) (w:Value),ds[j]?=some d'->its[j]?=some w->SeqAt.EqAt X.A.in1 s w u (PyData.eqv d' d):=fun j d' w e1 e2=>by
  obtain ⟨as,ra⟩:=cU.at I hds r j d' w e1 e2;exact SeqAt.eqAt_reads d' d _ _ _ _ _ _ ra rb (zA c1 d' (List.mem_of_getElem? e1)) c2 (by have:=hr.units;show X.A.units + 1 + _ < _;omega)
 let E:Value->Bool:=fun w=>decide (∃ (j:Nat) (d':PyData),ds[j]?=some d'/\its[j]?=some w/\PyData.eqv d' d=true)
 have hE:∀ (m:Nat) (d':PyData) (w:Value),ds[m]?=some d'->its[m]?=some w->E w=PyData.eqv d' d:=fun m d' w e1 e2=>by
  obtain ⟨as,ra⟩:=cU.at I hds r m d' w e1 e2
  cases hv:PyData.eqv d' d with
  | true=>exact decide_eq_true ⟨m,d',e1,e2,hv⟩
  | false =>
   refine decide_eq_false ?_;rintro ⟨i,d2,e3,e4,e5⟩;obtain ⟨as2,ra2⟩:=cU.at I hds r i d2 w e3 e4
   have:=SeqAt.Reads.unique d' d2 w as as2 (zA c1 d' (List.mem_of_getElem? e1)) ra ra2
   subst this;rw [hv] at e5;cases e5
 have hj:j < ds.length:=(List.getElem?_eq_some_iff.mp he1).1;have hji:j < its.toArray.size:=by rw [List.size_toArray];omega
 have at_:∀ (m:Nat) (hm:m < its.toArray.size),its[m]?=some its.toArray[m]:=fun m hm=>by
  have hm':m < its.length:=by simpa using hm
  rw [List.getElem?_eq_getElem hm'];simp
 refine call_meets F.slot_list_index ⟨_,ho,rfl⟩ F.entry_list_index (F.args_list_index_2 _ _)
  (SeqAt.list_indexAt p its.toArray n dd sl u E j hji (by have:=qU;have:=r.length;omega) (by rw [hE j e _ he1 (at_ j hji)];exact he2) (fun m hm hmj=>?_)) ⟨ho,fun w hw=>?_,?_⟩
 ·have hx:ds[m]?=some ds[m]:=by simp [show m < ds.length by rw [List.size_toArray] at hm;omega]
  rw [hE m _ _ hx (at_ m hm)];exact hno m _ hmj hx
 ·have hw':w∈its:=by simpa using hw
  obtain ⟨m,hm⟩:=List.getElem?_of_mem hw';have hml:m < ds.length:=by rw [hl];exact (List.getElem?_eq_some_iff.mp hm).1
  have hx:ds[m]?=some ds[m]:=List.getElem?_eq_getElem hml;rw [hE m _ _ hx hm];exact key m _ _ hx hm
 ·exact ⟨.int j,H,I.tok _,⟨_,rfl⟩,q⟩
def BA:U->List U->aG->UK->Prop:=fun x ws M Q=>∃ us w ds d j,view M x=.lst us/\ws=[w]/\cN us=some ds/\sX M w=some d/\PyData.canLayAll0 ds=true/\d.canLay0=true/\d.depth<=60 /\
 (∃ e,ds[j]?=some e/\PyData.eqv e d=true)/\(∀ m e,m < j->ds[m]?=some e->PyData.eqv e d=false)/\Q (.int (j:Nat)) M
theorem G6:sM K (F2 K) BA:=fun x xs u us H M Q' rm ru rus h Q c=>by
 obtain ⟨ws,w,ds,d,j,e,rfl,e2,e3,c1,c2,hdep,h1,h2,q⟩:=h;obtain ⟨a,vs,rfl,s2,r2⟩:=fG rm ru e;obtain ⟨v,rfl,a1⟩:=rus.one;exact ⟨a,vs,v,ds,d,j,rfl,rfl,s2,nX r2 e2,vF rm a1 e3,c1,c2,hdep,h1,h2,c.here rm c8 q⟩
theorem Cy {D:Dat} {o:Expr} {ta:UE} {tas:UA} {pos apos:Pos} (ho:aT D o ta) (ha:mP D [e] tas) (hbase:∀ env,attributeBase o "index" env (eval o env)=eval o env:=by intro _;rfl)
  (hfew:∀ env,((backTo pos (starEach [e] env)).all (fun x=>!x.1) && (backToKw pos (keywordEach [] env)).all (fun x=>x.1.isSome) && decide ([e].length + ([]:List Keyword).length + (if ([]:List Keyword).isEmpty then 0 else 1) < 30))=true:=by intro _;rfl)
  (hline:(apos.endLine == pos.line)=true:=by rfl) (hs:∀ env,starEach [e] env=[(false,eval e env)]:=by intro _;rfl):aT D (.Call (.Attribute o "index" apos) [e] [] pos) (zQ BA ta tas):=by
 obtain ⟨_,p,s⟩:=ho;obtain ⟨_,q,r⟩:=ha;refine ⟨_,fun X h=>?_,EH G6 s r⟩
 have:=IG (cpos:=pos) (apos:=apos) PySem.F.plainAttrs_list PySem.F.slot_list_index PySem.F.type_list_index (KG h.room) (p X h) (q X h) (hbase _) (hfew _) hline (hs _) (by rfl)
 rw [h.K] at this;exact this
end U2
namespace U2
open PySem PySem.Spec PyProof.Rows L2
variable {τ:SU} {M M1:aG}
theorem xC {o:Bool} {k:Nat} {ix:List Nat} {wi:UI} {g:UG} {tc:UT} {te:UE} {Q:UK} {S:Src} (zs:List (Option U)) (hw:∀ R:Src->aG->Prop,R S M1->wi τ M R) (hl:zs.length=S.xs.length) (hz:S.xs.length<=sizeLine) (hs:S.ok M1)
  (h:∀ (i:Nat) x z,S.xs[i]?=some x->zs[i]?=some z->∀ M,Sub M1 M->∀ R:Option U->aG->Prop,R z M->g x (eQ k ix τ) M fun τ2 M2=>tc τ2 M2 fun ok M3=>if ok=true then te τ2 M3 fun y M4=>R (some y) M4 else R none M3)
  (q:i7 o (zs.filterMap id) M1 Q):sO o k ix wi g tc te τ M Q:=by
 refine hw _ ⟨hz,fun D hD=>⟨fun i ys M=>ys=(zs.take i).filterMap id/\M=mup M1 D (.lst ys)/\i<=S.xs.length,⟨by simp,rfl,Nat.zero_le _⟩,?_,?_,?_⟩⟩
 ·rintro i ys M ⟨rfl,rfl,hi⟩
  refine ⟨fun a e=>?_,aD,?_⟩
  ·have:=hs a e
   rw [aF (fun z=>by subst z;rw [hD] at this;cases this)];exact this
  ·refine Nat.le_trans (List.length_filterMap_le _ _) ?_
   rw [List.length_take];omega
 ·rintro i x ys M e ⟨rfl,rfl,hi⟩
  have hlt:i < S.xs.length:=(List.getElem?_eq_some_iff.mp e).1;have hy:zs[i]?=some zs[i]:=by simp [show i < zs.length by omega]
  have tk:zs.take (i + 1)=zs.take i++[zs[i]]:=by rw [List.take_add_one,hy];rfl
  generalize hzi:zs[i]=z at hy tk
  refine h i x z e hy (mup M1 D (.lst ((zs.take i).filterMap id))) ((Sub.refl M1).mup hD) (fun r M4=>match r with
   | some y=>M4 D=some (.lst ((zs.take i).filterMap id))/\((zs.take i).filterMap id++[y]=(zs.take (i + 1)).filterMap id/\mup M4 D (.lst ((zs.take i).filterMap id++[y]))=mup M1 D (.lst ((zs.take i).filterMap id++[y]))/\i + 1<=S.xs.length)
   | none=>(zs.take i).filterMap id=(zs.take (i + 1)).filterMap id/\M4=mup M1 D (.lst ((zs.take i).filterMap id))/\i + 1<=S.xs.length) ?_
  cases z with
  | some y=>exact ⟨aD,by rw [tk,List.filterMap_append];rfl,aZ,hlt⟩
  | none=>exact ⟨by rw [tk,List.filterMap_append];simp,rfl,hlt⟩
 ·rintro ys M ⟨rfl,rfl,hi⟩
  rw [show zs.take S.xs.length=zs by rw [<- hl];exact List.take_length]
  cases o with
  | true=>exact q D hD
  | false=>exact ⟨M1,(Sub.refl M1).mup hD,hD,q⟩
theorem JK {i:Nat} {a:Addr} {u:U} (hs:Sub M M1) (hr:∀ K H,RelM K H M1->aQ H M1 H M->aM K H M u (.ref a)) (ht:τ[i]?=some (some (.ref a))):Cv τ M1 (τ.set i (some u)) M:=by
 intro K H σ rm rs;have st:aQ H M1 H M:=hs.less;refine ⟨st,rm.sub hs,?_⟩;obtain ⟨v,hv,rv⟩:=rs.2 i _ ht;cases rv.ref
 have e:σ.set i (some (.ref a))=σ:=by
  refine List.ext_getElem? fun j=>?_;rw [List.getElem?_set];split
  ·rename_i h;subst h
   rw [hv];split
   ·rfl
   ·rename_i h2
    have:=(List.getElem?_eq_some_iff.mp hv).1
    exact absurd this h2
  ·rfl
 have r:=(rs.stp st).set (i:=i) (hr K H rm st);rw [e] at r;exact r
theorem RV {x C dx:Addr} {fs fs':List (Str × U)} (hx:M1 x=some (.ins C dx fs)) (hs:∀ b mo,b≠x->M b=some mo->M1 b=some mo)
  (hr:∀ (K:PySem.W.Frag) (H:Hp) (ws:List (Str × V)),RelM K H M1->aQ H M1 H (mup M x (.ins C dx fs'))->bI K H M1 fs ws->bI K H (mup M x (.ins C dx fs')) fs' ws):Cv τ M1 τ (mup M x (.ins C dx fs')):=by
 intro K H σ rm rs
 have st:aQ H M1 H (mup M x (.ins C dx fs')):=aQ.less fun b e=>by
  by_cases hb:b=x
  ·subst hb;rw [hx] at e;cases e
  ·rw [aF hb]
   cases q:M b with
   | none=>rfl
   | some mo=>rw [hs b mo hb q] at e;cases e
 refine ⟨st,fun a mo e=>?_,rs.stp st⟩
 by_cases ha:a=x
 ·subst ha
  rw [aD] at e;cases e;obtain ⟨ws,h1,h2⟩:=rm a _ hx;exact ⟨ws,h1,hr K H ws rm st h2⟩
 ·rw [aF ha] at e
  refine (rm a mo (hs a mo ha e)).stp (fun b q z=>?_) st rfl
  by_cases hb:b=x
  ·subst hb;rw [aD] at z;cases z
  ·rw [aF hb] at z;exact hs b _ hb z
open AutoSeq1 (wpAny_loadPart')
open MeetsSeq MeetsSeq2 MeetsSeq3 SeqRoads2
theorem C9 (l:Addr) (items:Array Value) (n:Nat) (dd:Option Addr) (sl:Array (Option Value)) (x:Value) (e:Value->Bool) (j:Nat) (hj:j < items.size) (hit:e items[j]=true) (hno:∀ m (hm:m < items.size),m < j->e items[m]=false) :
  Meets (Builtin.«tuple.index» ⟨[.ref l,x],[]⟩)
   (fun A R s=>s.heap.get? l=some { cls:=.type "tuple",dict:=dd,data:=.seq items n,slots:=sl }/\(∀ y,y∈items->SeqAt.EqAt A.in1 s y x (e y))/\R (.ok (.ret (.int j s.toks))) { s with toks:=s.toks + 1 }) :=
 .of_wp fun prog w A R s h=>by
  obtain ⟨hp,g,d,tk,os⟩:=s;obtain ⟨hl,he,h⟩:=h
  wp_walk using wpAny_loadPart' hl
  change wpAny (model prog w) A.in1 (forIn [:min items.size items.size] ((none,()):Option Fin × Unit) (fun (i:Nat) (_:Option Fin × Unit)=>(match items[i]? with
   | some y=>(do
     let b <- eqBool y x
     if b=true then (do
      let r <- retInt (i:Int)
      pure (ForInStep.done ((some r,()):Option Fin × Unit)))
     else pure (ForInStep.yield ((none,()):Option Fin × Unit)))
   | _=>pure (ForInStep.yield ((none,()):Option Fin × Unit)):Sem (ForInStep (Option Fin × Unit))))) _ _ _
  rw [Std.Legacy.Range.forIn_eq_forIn_range'];simp only [Std.Legacy.Range.size,Nat.sub_zero,Nat.add_sub_cancel,Nat.div_one,Nat.min_self];refine wpAny_forIn_list _ (fun rest b s'=>b.1=none/\s'=⟨hp,g,d,tk,os⟩/\∃ i,i<=j/\rest=List.range' i (items.size - i)) _ ?_ ?_ _ _ ⟨rfl,rfl,0,Nat.zero_le _,by simp⟩
  ·rintro y rest b s' ⟨hb,rfl,i,hi,hr⟩
   have hlt:i < items.size:=by omega
   obtain ⟨rfl,hrest⟩:y=i/\rest=List.range' (i + 1) (items.size - (i + 1)):=by
    have e:items.size - i=(items.size - (i + 1)) + 1:=by omega
    rw [e,List.range'_succ] at hr
    injection hr with h1 h2
    exact ⟨h1,h2⟩
   rw [Array.getElem?_eq_getElem hlt];refine wpAny_bind (he _ (Array.getElem_mem hlt) prog w _ _ ?_)
   by_cases hij:y=j
   ·subst hij
    rw [hit]
    wp_walk
    exact ⟨_,rfl,h⟩
   ·rw [hno y hlt (by omega)]
    wp_walk
    exact ⟨rfl,rfl,y + 1,by omega,hrest⟩
  ·rintro b s' ⟨hb,rfl,i,hi,hr⟩
   have:items.size - i=0:=by
    have:=congrArg List.length hr
    simp at this;omega
   omega
def GB (K:PySem.W.Frag):V->List V->Hp->VK->Prop:=fun x vs H Q=>∃ p xs y j,x=.ref p/\vs=[y]/\fR K H p xs/\L2.i8 y=true/\xs.all L2.i8=true/\(∃ z,xs[j]?=some z/\rY z y=true)/\(∀ m z,m < j->xs[m]?=some z->rY z y=false)/\Q (.int (j:Nat)) H
variable {X:Cx}
theorem Jx:JF X "tuple.index" (GB X.K):=by
 intro pins s σ H x vs v us Q I rx rv h;obtain ⟨p,xs,y,j,rfl,rfl,hq,fy,fs,⟨z,hz1,hz2⟩,hno,q⟩:=h;cases rx;obtain ⟨u,rfl,ru⟩:=rv.one;obtain ⟨its,r,pl,hz⟩:=I.tupleP hq;obtain ⟨⟨cls,dd,data,sl⟩,ho,hc,_,n,hd⟩:=pl;simp only at hc hd;subst hc hd;have hl:=r.length;have hj:j < xs.length:=(List.getElem?_eq_some_iff.mp hz1).1;have hji:j < its.toArray.size:=by rw [List.size_toArray];omega
 have at_:∀ (m:Nat) (hm:m < its.toArray.size) z,xs[m]?=some z->xO y its.toArray[m]=rY z y:=fun m hm z e=>by
  obtain ⟨w',h1,h2⟩:=r.get e
  have:its.toArray[m]=w':=by
   have h3:its[m]?=some w':=h1;have hm':m < its.length:=by simpa using hm
   rw [List.getElem?_eq_getElem hm'] at h3
   simpa using Option.some.inj h3
  rw [this]
  exact ET h2 (by
   have:=List.all_eq_true.mp fs z (List.mem_of_getElem? e)
   exact this)
 refine call_meets F.slot_tuple_index ⟨_,ho,rfl⟩ F.entry_tuple_index (F.args_tuple_index_2 _ _)
  (C9 p its.toArray n dd sl u (xO y) j hji (by rw [at_ j hji z hz1];exact hz2) (fun m hm hmj=>?_)) ⟨ho,fun w' hw=>uS ru fy r fs w' (by simpa using hw),?_⟩
 ·have hx:xs[m]?=some xs[m]:=by simp [show m < xs.length by omega]
  rw [at_ m hm _ hx];exact hno m _ hmj hx
 ·exact ⟨.int j,H,I.tok _,⟨_,rfl⟩,q⟩
def R8 (K:PySem.W.Frag) (r:V->List V->Hp->VK->Prop) (to:TE) (t:TA):TE:=fun σ H Q=>to σ H fun x H1=>(∃ a xs,x=.ref a/\fR K H1 a xs)/\t σ H1 fun xs H2=>r x xs H2 Q
variable {o e:Expr} {apos:Pos} {r:V->List V->Hp->VK->Prop}
theorem RY {es:List Expr} {to:TE} {t:TA} {name:Str} {cpos:Pos} {id:String} (pa:PlainAttrs "tuple") (slot:Slot "tuple" name id) (hty:typeOf (.builtin id)=pure (.type "method_descriptor")) (hm:Sv X id r) (ho:PE X o to) (ha:PA X (e :: es) t)
  (hbase:attributeBase o name X.env (eval o X.env)=eval o X.env)
  (hfew:((backTo cpos (starEach (e :: es) X.env)).all (fun x=>!x.1) && (backToKw cpos (keywordEach [] X.env)).all (fun x=>x.1.isSome)
   && decide ((e :: es).length + ([]:List Keyword).length + (if ([]:List Keyword).isEmpty then 0 else 1) < 30))=true)
  (hline:(apos.endLine == cpos.line)=true) (hs:starEach (e :: es) X.env=(false,eval e X.env) :: starEach es X.env) (hplain:(backTo cpos (starEach es X.env)).any (·.1)=false) :
  PE X (.Call (.Attribute o name apos) (e :: es) [] cpos) (R8 X.K r to t):=by
 intro pins s σ H Q I h;refine wpAny_Call_method_late hbase hfew hline rfl (bD (ho pins s σ H _ I h) fun v s1 ⟨x,H1,I1,r1,⟨a,xs,e1,sq⟩,q1⟩=>?_);subst e1;cases r1;obtain ⟨its,_,⟨ob,g1,g2,g3,_⟩,_⟩:=I1.tupleP sq
 refine ⟨"tuple",id,pa,slot,hty,⟨ob,g1,g2⟩,(fun b eb=>by cases eb;exact ⟨ob,g1,g3⟩),?_⟩
 have hA:=ha cpos pins s1 σ H1 _ I1 q1;rw [hs] at hA ⊢;refine Calls.callWith_builtin (by show (false || (backTo cpos (starEach es X.env)).any (·.1))=false;rw [hplain] <;> rfl) (Calls.evalArgs_plain ?_);exact bD hA fun us s2 ⟨vs,H2,I2,r2,q2⟩=>hm pins s2 σ H2 (.ref a) vs (.ref a) us Q I2 rfl r2 q2
def Vl (x:U):Prop:=∃ us,x=.tup us
def BN (r:U->List U->aG->UK->Prop) (to:UE) (t:UA):UE:=fun τ M Q=>to τ M fun x M1=>Vl x/\t τ M1 fun xs M2=>r x xs M2 Q
variable {K:PySem.W.Frag}
theorem QG {r':U->List U->aG->UK->Prop} {to:TE} {to':UE} {t:TA} {t':UA} (hr:sM K r r') (ho:bR K to to') (h:lA K t t') :
  bR K (R8 K r to t) (BN r' to' t'):=fun σ τ H M Q' rs rm q Q c =>
 ho σ τ H M _ rs rm q _ fun u v M1 H1 s1 rm1 ru h1=>by
  obtain ⟨⟨us,rfl⟩,h1⟩:=h1;obtain ⟨a,vs,rfl,sq,_⟩:=ru.tup;exact ⟨⟨a,vs,rfl,sq⟩,h σ τ H1 M1 _ (rs.stp s1) rm1 h1 _ fun us' vs' M2 H2 s2 rm2 rus h2=>hr _ vs' _ us' H2 M2 Q' rm2 (ru.stp s2) rus h2 Q (c9.stp c (s1.trans s2))⟩
def yT:U->List U->aG->UK->Prop:=fun x ws M Q=>match x,ws with
 | .tup us,[.str w]=>∃ (ss:List Str) (j:Nat),vB us=some ss/\ss[j]?=some w/\(∀ m z,m < j->ss[m]?=some z->z≠w)/\Q (.int (j:Nat)) M
 | _,_=>False
theorem Ht:sM K (GB K) yT:=fun x xs u us H M Q' rm ru rus h Q c=>by
 unfold yT at h;split at h
 ·rename_i ws w
  obtain ⟨ss,j,h1,h2,h3,h4⟩:=h;obtain ⟨a,vs,rfl,s2,r2⟩:=ru.tup;rw [Ct r2 h1] at s2;obtain ⟨v,rfl,a1⟩:=rus.one;cases a1.str;refine ⟨a,_,_,j,rfl,rfl,s2,rfl,by simp [L2.i8],⟨.str w,by rw [List.getElem?_map,h2];rfl,by simp [rY]⟩,fun m z hm hz=>?_,c.here rm c8 h4⟩;rw [List.getElem?_map] at hz
  cases e3:ss[m]? with
  | none=>rw [e3] at hz;cases hz
  | some y =>
   rw [e3] at hz;cases hz
   have:=h3 m y hm e3
   simp [rY,this]
 ·exact h.elim
theorem pA {D:Dat} {ta:UE} {tas:UA} {pos:Pos} (ho:aT D o ta) (ha:mP D [e] tas) (hbase:∀ env,attributeBase o "index" env (eval o env)=eval o env:=by intro _;rfl)
  (hfew:∀ env,((backTo pos (starEach [e] env)).all (fun x=>!x.1) && (backToKw pos (keywordEach [] env)).all (fun x=>x.1.isSome) && decide ([e].length + ([]:List Keyword).length + (if ([]:List Keyword).isEmpty then 0 else 1) < 30))=true:=by intro _;rfl)
  (hline:(apos.endLine == pos.line)=true:=by rfl) (hs:∀ env,starEach [e] env=[(false,eval e env)]:=by intro _;rfl):aT D (.Call (.Attribute o "index" apos) [e] [] pos) (BN yT ta tas):=by
 obtain ⟨_,p,s⟩:=ho;obtain ⟨_,q,r⟩:=ha;refine ⟨_,fun X h=>?_,QG Ht s r⟩
 have:=RY (cpos:=pos) (apos:=apos) PySem.F.plainAttrs_tuple PySem.F.slot_tuple_index PySem.F.type_tuple_index Jx (p X h) (q X h) (hbase _) (hfew _) hline (hs _) (by rfl)
 rw [h.K] at this;exact this
end U2
namespace U2
open PySem PySem.Spec PyProof.Rows L2
end U2
namespace L2
open PySem PySem.Spec PyProof.Rows
abbrev i5:=PyData
abbrev t7 (H:Hp):List (i5 × V)->List (i5 × Addr × Value)->Prop:=Paired fun p q=>p.1=q.1/\sS H p.1 q.2.1/\RelV p.2 q.2.2
variable {H:Hp} {kvs:List (i5 × V)} {xs:List (i5 × Addr × Value)}
theorem t7.val (r:t7 H kvs xs) (k:i5):j8 (kA kvs k) ((atKey xs k).map (·.2)):=by
 induction r with
 | nil=>exact True.intro
 | @cons p q ps qs h t ih =>
  obtain ⟨h1,_,h2⟩:=h
  by_cases e:p.1=k
  ·have e':q.1=k:=h1.symm.trans e
   have b:atKey (q :: qs) k=some q.2:=by simp [atKey,List.find?_cons,e']
   rw [kD e,b];exact h2
  ·have e':¬ q.1=k:=fun z=>e (h1.trans z)
   have b:atKey (q :: qs) k=atKey qs k:=by simp [atKey,List.find?_cons,e']
   rw [j9 e,b];exact ih
variable {y:V}
theorem t7.repl (r:t7 H kvs xs) (k:i5) {u:Value} (ry:RelV y u) :
  t7 H (kvs.map fun kv=>if kv.1=k then (kv.1,y) else kv) (xs.map (putAt k u)):=by
 induction r with
 | nil=>exact .nil
 | @cons p q ps qs h t ih =>
  rw [List.map_cons,List.map_cons];refine .cons ?_ ih;obtain ⟨h1,h2,h3⟩:=h;unfold putAt
  by_cases e:p.1=k
  ·rw [if_pos e,if_pos (h1.symm.trans e)];exact ⟨h1,h2,ry⟩
  ·rw [if_neg e,if_neg (fun z=>e (h1.trans z))];exact ⟨h1,h2,h3⟩
theorem t7.put (r:t7 H kvs xs) (k:i5) {b:Addr} {u:Value} (hb:sS H k b) (ry:RelV y u) :
  t7 H (putK kvs k y) (storedH xs k b u):=by
 have e:(kvs.any fun kv=>decide (kv.1=k))=(atKey xs k).isSome:=by
  rw [uP,(r.val k).isSome_eq,Option.isSome_map]
 unfold putK storedH;rw [e]
 by_cases q:(atKey xs k).isSome=true
 ·rw [if_pos q,if_pos q];exact r.repl k ry
 ·rw [if_neg q,if_neg q];exact Paired.snoc r ⟨rfl,hb,ry⟩
theorem t7.keeps {H':Hp} (r:t7 H kvs xs) (ht:∀ b ys,H b=some (.tup ys)->H' b=some (.tup ys)):t7 H' kvs xs :=
 Paired.mapP r fun _ _ z=>⟨z.1,z.2.1.stay ht,z.2.2⟩
section
variable {P:Program} {w:World} {H:Hp} {h:Heap} {a:Addr}
mutual
theorem eD.reads (ok:fD P w H h):∀ {d:PyData} {v:V} {u:Value},eD H d v->RelV v u->∃ as,Reads h u d as
 | .none,v,u,q,r=>by simp only [eD] at q;subst q;cases r;exact ⟨_,.none⟩
 | .int i,v,u,q,r=>by simp only [eD] at q;subst q;obtain ⟨t,rfl⟩:=r;exact ⟨_,.int i t⟩
 | .str z,v,u,q,r=>by simp only [eD] at q;subst q;obtain ⟨t,rfl⟩:=r;exact ⟨_,.str z t⟩
 | .tuple ds,v,u,q,r=>by
  simp only [eD] at q;obtain ⟨a,xs,rfl,e,hs⟩:=q;cases (show u=Value.ref a from r);obtain ⟨_,its,rv,o,h1,h2,_,n,h3⟩:=(show cZ P w H h a (.tup xs) from ok a _ e);obtain ⟨as,ra⟩:=g0.reads ok hs rv;exact ⟨_,.tuple h1 h2 h3 (by simpa using ra)⟩
 | .bool _,v,u,q,r=>by simp only [eD] at q
 | .list _,v,u,q,r=>by simp only [eD] at q
 | .dict _,v,u,q,r=>by simp only [eD] at q
theorem g0.reads (ok:fD P w H h):∀ {ds:List PyData} {vs:List V} {us:List Value},g0 H ds vs->Vals vs us->∃ as,ReadsAll h us ds as
 | [],vs,us,q,r=>by simp only [g0] at q;subst q;cases r;exact ⟨_,.nil⟩
 | d :: ds,vs,us,q,r=>by
  simp only [g0] at q;obtain ⟨v,vs',rfl,h1,h2⟩:=q
  cases r with
  | cons r rr =>
   obtain ⟨as,ra⟩:=eD.reads ok h1 r;obtain ⟨bs,rb⟩:=g0.reads ok h2 rr;exact ⟨_,.cons ra rb⟩
end
theorem y0 {k:i5} (ok:fD P w H h) (e:sS H k a):(mK P w).is h k a:=⟨e.1,e.2.1,eD.reads ok e.2.2 rfl⟩
theorem Dl {kvs:List (i5 × V)} (ok:fD P w H h) (e:H a=some (.dN kvs)):kvs.length<=sizeLine/\(a == sysModules)=false /\
  ∃ xs,t7 H kvs xs/\h.DictOfH (mK P w) a xs:=by
 obtain ⟨z,y,xs,r,o,es,ep,h1,h2,h3,h4,h5⟩:=(show cZ P w H h a (.dN kvs) from ok a _ e);refine ⟨z,y,xs,r,o,es,ep,h1,h2,h3,h4,fun x hx=>?_,h5⟩
 have all:∀ {l:List (i5 × V)} {m:List (i5 × Addr × Value)},t7 H l m->∀ x∈m,(mK P w).is h x.1 x.2.1:=by
  intro l m q
  induction q with
  | nil=>intro x hx;exact nomatch hx
  | @cons p q ps qs hq t ih =>
   intro x hx
   rcases List.mem_cons.mp hx with e | hx
   ·subst e
    obtain ⟨e1,e2,_⟩:=hq;rw [e1] at e2;exact y0 ok e2
   ·exact ih x hx
 exact all r x hx
end
def u4 (H:Hp) (a:Addr) (y:V) (r:Option V):Prop:=∃ kvs k b,H a=some (.dN kvs)/\y=.ref b/\sS H k b/\r=kA kvs k
def Oz (H:Hp) (a:Addr) (y v:V) (H':Hp):Prop:=∃ (kvs:List (i5 × V)) (k:i5) (b:Addr),H a=some (.dN kvs)/\y=.ref b/\sS H k b/\kvs.length < sizeLine/\H'=upd H a (.dN (putK kvs k v))
section
variable {X:Cx} {pins:List (Addr × Obj)} {σ:St} {H:Hp} {s:Shared} {a:Addr} {y v:V} {o:Option V} {u r:Value} {A:Around} {E:Value->Shared->Prop}
variable {Q:Value->Shared->Prop}
theorem HA (hu:A.units + 9 < cLine) (I:Inv X pins σ H s) (g:u4 H a y (some v)) (ry:RelV y u) (h:∀ w' s',Inv X pins σ H s'->RelV v w'->Q w' s') :
  wpAny (model X.prog X.w) A (getItem (.ref a) u) Q E s:=by
 obtain ⟨kvs,k,b,e,ey,eb,l⟩:=g;subst ey;cases (show u=Value.ref b from ry);obtain ⟨z,hd,xs,rel,dd⟩:=Dl I.hok e;obtain ⟨w',hw,rw'⟩:=j8.some_of (v:=v) (o:=(atKey xs k).map (·.2)) (by rw [l];exact rel.val k);obtain ⟨p,hp,hp2⟩:=Option.map_eq_some_iff.mp hw;refine wpAny_getItem_heap (show (mK X.prog X.w).room A.in1 from hu) (y0 I.hok eb) dd hp ?_;rw [hp2];exact h w' _ (I.tok _) rw'
theorem Nd (hu:A.units + 9 < cLine) (I:Inv X pins σ H s) (g:u4 H a y o) (ry:RelV y u) (h:∀ s',Inv X pins σ H s'->Q (.bool (!o.isSome)) s') :
  wpAny (model X.prog X.w) A (compareOp .NotIn u (.ref a)) Q E s:=by
 obtain ⟨kvs,k,b,e,ey,eb,l⟩:=g;subst ey;cases (show u=Value.ref b from ry);obtain ⟨z,hd,xs,rel,dd⟩:=Dl I.hok e;refine wpAny_notIn_heap (show (mK X.prog X.w).room A.in1 from hu) (y0 I.hok eb) hd dd ?_;have q:=(rel.val k).isSome_eq;rw [Option.isSome_map] at q;rw [<- q,<- l];exact h _ (I.tok _)
theorem IS {H':Hp} {Q:Unit->Shared->Prop} (hu:A.units + 9 < cLine) (I:Inv X pins σ H s) (g:Oz H a y v H') (ry:RelV y u) (rv:RelV v r) (h:∀ s',Inv X pins σ H' s'->Q () s') :
  wpAny (model X.prog X.w) A (setItem (.ref a) u r) Q E s:=by
 obtain ⟨kvs,k,b,e,ey,eb,l,eH⟩:=g;subst ey eH;cases (show u=Value.ref b from ry);obtain ⟨z,hd,xs,rel,dd⟩:=Dl I.hok e;have hz:xs.length<=sizeLine:=by rw [<- Paired.length rel];exact z
 have hl:(putK kvs k v).length<=sizeLine:=by have:=sW kvs k v;omega
 refine wpAny_setItem_heap (hsz:=hz) (show (mK X.prog X.w).room A.in1 from hu) (y0 I.hok eb) dd fun h' dd' hs=>h _ ?_;obtain ⟨q,es,ep,hq,h2,h3,h4,_,h5⟩:=dd';refine Ce I (by rw [e];exact True.intro) hs ⟨q,hq⟩ ⟨hl,hd,_,(rel.put k eb rv).keeps fun c ys ec=>?_,q,es,ep,hq,h2,h3,h4,h5⟩;rw [bK (N4 ec e (fun z=>nomatch z))];exact ec
theorem DU (I:Inv X pins σ H s) (g:u4 H a y o):s.TypeIs (.ref a) "dict":=by
 obtain ⟨kvs,k,b,e,_⟩:=g;obtain ⟨_,_,xs,_,dd⟩:=Dl I.hok e;exact dd.typeIs
end
section
variable {X:Cx} {o i e value:Expr} {pos pos':Pos} {td ty tv:TE}
def Q0 (td ty:TE):TE:=fun σ H Q=>td σ H fun x H1=>ty σ H1 fun y H2=>∃ a v,x=.ref a/\u4 H2 a y (some v)/\Q v H2
theorem Mb (hu:X.A.units + 9 < cLine) (ho:PE X o td) (hi:PE X i ty) (hs:DZ i):PE X (.Subscript o i pos) (Q0 td ty):=by
 intro pins s σ H Q I h;refine Gn PySem.F.slot_dict_getitem.lookup hs (bD (ho pins s σ H _ I h) fun u s1 ⟨x,H1,I1,rx,q1⟩=>bD (hi pins s1 σ H1 _ I1 q1) fun iv s2 ⟨y,H2,I2,ry,a,v,ex,g,q2⟩=>?_);subst ex;obtain rfl:u=Value.ref a:=rx;exact ⟨DU I2 g,HA hu I2 g ry fun w' s3 I3 rw'=>⟨v,H2,I3,rw',q2⟩⟩
def QU (td ty tv:TE):TS:=fun D σ H=>tv σ H fun v H1=>td σ H1 fun x H2=>ty σ H2 fun y H3=>∃ a H4,x=.ref a/\Oz H3 a y v H4/\D.nx σ H4
theorem L5 (hu:X.A.units + 9 < cLine) (ho:PE X o td) (hi:PE X i ty) (hv:PE X value tv) (hs:swapsWith value (some (.Subscript o i pos')) pos.line X.env=pure false) :
  PS X (.Assign [.Subscript o i pos'] value pos) (QU td ty tv):=by
 intro pins s σ H D I h;refine wpAny_Assign_Subscript (bD (hv pins s σ H _ I h) fun r s1 ⟨v,H1,I1,rv,q1⟩=>bD (ho pins s1 σ H1 _ I1 q1) fun u s2 ⟨x,H2,I2,rx,q2⟩=>bD (hi pins s2 σ H2 _ I2 q2) fun iv s3 ⟨y,H3,I3,ry,a,H4,ex,g,q3⟩=>?_) hs;subst ex;obtain rfl:u=Value.ref a:=rx;exact IS hu I3 g ry rv fun s4 I4=>⟨σ,H4,I4,q3⟩
theorem Nm {P:Program} {w:World} {H:Hp} (h:Heap) (hb:sysModules < h.objs.size):cZ P w H (h.push { cls:=.type "dict",data:=.dict #[] }) h.objs.size (.dN []):=by
 have:=DL (P:=P) (w:=w) (H:=H) h hb
 obtain ⟨z,y,xs,r,ob,es,ep,e1,e2,e3,e4,e5⟩:=this;cases r;exact ⟨z,y,[],.nil,ob,es,ep,e1,e2,e3,e4,List.nodup_nil⟩
def K9:TE:=fun _ H Q=>∀ p,H p=none->Q (.ref p) (upd H p (.dN []))
theorem Ml:PE X (.Dict [] [] pos) K9:=fun pins s σ H Q I h =>
 wpAny_Dict_empty ⟨.ref s.heap.objs.size,_,I.laid (a:=s.heap.objs.size) (o:=.dN []) (t':=s.toks) (fun _ _ q=>Heap.get?_push_of_some _ q) (Nat.le_refl _) (Nm s.heap I.big),rfl,h _ (I.hok.fresh (Nat.le_refl _))⟩
end
end L2
namespace U2
open PySem PySem.Spec PyProof.Rows L2
theorem Ex {k:Nat} {A:Around} (h:cV k A):A.units + 9 < cLine:=Nat.lt_of_le_of_lt (Nat.add_le_add_left (by decide:9<=64) _) h.units
def Tb:PyData->Bool
 | .tuple _=>true
 | _=>false
def E9 (u:U):Option i5:=match toD u with
 | some d=>if dQ d=true/\d.depth<=8/\Tb d=true then some d else none
 | none=>none
mutual
theorem Ep {K:PySem.W.Frag} {H:Hp} {M:aG}:∀ {u:U} {v:V} {d:PyData},aM K H M u v->toD u=some d->dQ d=true->eD H d v
 | .non,v,d,r,e,k=>by simp only [toD,Option.some.injEq] at e;subst e;simp only [eD];exact r.non
 | .bl b,v,d,r,e,k=>by simp only [toD,Option.some.injEq] at e;subst e;exact nomatch k
 | .int i,v,d,r,e,k=>by simp only [toD,Option.some.injEq] at e;subst e;simp only [eD];exact r.int
 | .str i,v,d,r,e,k=>by simp only [toD,Option.some.injEq] at e;subst e;simp only [eD];exact r.str
 | .tup us,v,d,r,e,k=>by
  simp only [toD] at e
  cases e2:cN us with
  | none=>rw [e2] at e;simp at e
  | some ds =>
   rw [e2] at e;simp at e;subst e;simp only [dQ] at k;simp only [aM] at r;obtain ⟨a,vs,rfl,q,rs⟩:=r;simp only [eD];exact ⟨a,vs,rfl,q.2,Cq rs e2 k⟩
 | .lst us,v,d,r,e,k=>by
  simp only [toD] at e
  cases e2:cN us with
  | none=>rw [e2] at e;simp at e
  | some ds=>rw [e2] at e;simp at e;subst e;exact nomatch k
 | .ty _,v,d,r,e,k=>by simp [toD] at e
 | .ref _,v,d,r,e,k=>by simp [toD] at e
 | .dic _ _ _,v,d,r,e,k=>by simp [toD] at e
theorem Cq {K:PySem.W.Frag} {H:Hp} {M:aG}:∀ {us:List U} {vs:List V} {ds:List PyData},aI K H M us vs->cN us=some ds->iX ds=true->g0 H ds vs
 | [],vs,ds,r,e,k=>by simp only [cN,Option.some.injEq] at e;subst e;simp only [g0];exact r.inv_nil
 | u :: us,vs,ds,r,e,k=>by
  obtain ⟨v,vs',rfl,a,b⟩:=r.inv_cons;simp only [cN] at e
  cases e1:toD u with
  | none=>rw [e1] at e;simp at e
  | some d =>
   cases e2:cN us with
   | none=>rw [e1,e2] at e;simp at e
   | some ds' =>
    rw [e1,e2] at e;simp at e;subst e;simp only [iX,Bool.and_eq_true] at k;simp only [g0];exact ⟨v,vs',rfl,Ep a e1 k.1,Cq b e2 k.2⟩
end
variable {K:PySem.W.Frag} {H:Hp} {M:aG} {y:U}
theorem GU {u:V} {k:i5} (r:aM K H M y u) (e:E9 y=some k):∃ b,u=.ref b/\sS H k b:=by
 unfold E9 at e;split at e
 ·rename_i d e1
  split at e
  ·rename_i h
   cases e;have q:=Ep r e1 h.1
   cases k with
   | tuple ds =>
    have q':=q;simp only [eD] at q;obtain ⟨a,xs,rfl,_⟩:=q;exact ⟨a,rfl,h.1,h.2.1,q'⟩
   | _=>exact nomatch h.2.2
  ·cases e
 ·cases e
noncomputable def tJ (M:aG) (x y:U):Option (Option U):=match x with
 | .ref a=>match M a,E9 y with
  | some (.dN kvs),some k=>some (dS kvs k)
  | _,_=>none
 | _=>none
theorem Bk {x:U} {v u:V} {o:Option U} (rm:RelM K H M) (rx:aM K H M x v) (ry:aM K H M y u) (e:tJ M x y=some o):∃ a ov,v=.ref a/\u4 H a u ov/\AH K H M o ov:=by
 unfold tJ at e;split at e
 ·rename_i a
  split at e
  ·rename_i kvs k e1 e2
   cases e;cases rx.ref;obtain ⟨ws,hv,r⟩:=rm a _ e1;obtain ⟨b,rfl,hb⟩:=GU ry e2;exact ⟨a,_,rfl,⟨ws,k,b,hv,rfl,hb,rfl⟩,r.val k⟩
  ·cases e
 ·cases e
def AI:dY:=fun x y M Q=>match tJ M x y with
 | some (some u)=>Q u M
 | _=>False
def Jl:R2:=fun x y H Q=>∃ a v,x=.ref a/\u4 H a y (some v)/\Q v H
theorem JM:dG K Jl AI:=fun x y u w H M Q' rm ru rw h Q c=>by
 unfold AI at h;split at h
 ·rename_i z e
  obtain ⟨a,ov,rfl,g,r⟩:=Bk rm ru rw e
  cases ov with
  | none=>exact r.elim
  | some v=>exact ⟨a,v,rfl,g,c.here rm r h⟩
 ·exact h.elim
def OL (neg:Bool):R2:=fun y x H Q=>∃ a o,x=.ref a/\u4 H a y o/\Q (.bl (if neg then !o.isSome else o.isSome)) H
def Dw (neg:Bool):dY:=fun y x M Q=>match tJ M x y with
 | some o=>Q (.bl (if neg then !o.isSome else o.isSome)) M
 | none=>False
theorem MY {neg:Bool}:dG K (OL neg) (Dw neg):=fun x y u w H M Q' rm ru rw h Q c=>by
 unfold Dw at h;split at h
 ·rename_i o e
  obtain ⟨a,ov,rfl,g,r⟩:=Bk rm rw ru e;refine ⟨a,ov,rfl,g,?_⟩;rw [<- r.isSome_eq];exact c.here rm fQ h
 ·exact h.elim
theorem HL {X:Cx} {k:Nat} (hr:cV k X.A):dI X (compareOp .NotIn) (OL true):=by
 intro pins s σ H x y v u Q I rx ry h;obtain ⟨a,o,rfl,g,q⟩:=h;cases ry;exact Nd (Ex hr) I g rx fun s' I'=>⟨.bl (!o.isSome),H,I',rfl,q⟩
section
variable {D:Dat} {a b e o i:Expr} {ta tb te to ti:UE} {pos:Pos}
theorem Ng (ha:aT D a ta) (hb:aT D b tb) (hs:DZ b:=by intro _ _;rfl):aT D (.Subscript a b pos) (l9 AI ta tb):=by
 obtain ⟨_,p,s⟩:=ha;obtain ⟨_,q,r⟩:=hb;exact ⟨E4 Jl _ _,fun X h=>Mb (Ex h.room) (p X h) (q X h) hs,tY JM s r⟩
theorem K8:nS D .NotIn (Dw true):=⟨⟨_,fun X h=>HL h.room,MY⟩⟩
def J6:UE:=fun _ M Q=>∀ p,M p=none->Q (.ref p) (mup M p (.dN []))
theorem MK:aT D (.Dict [] [] pos) J6:=by
 refine ⟨K9,fun X h=>Ml,fun σ τ H M Q' rs rm h Q c p hp=>?_⟩;have st:aQ H M (upd H p (.dN [])) (mup M p (.dN [])):=aQ.own rm hp;exact c (.ref p) _ _ _ st (rm.put st ⟨[],bY,.nil⟩) i6 (h p (rm.no hp))
def JS (te to ti:UE):US:=fun D τ M=>te τ M fun v M1=>to τ M1 fun x M2=>ti τ M2 fun y M3=>match x with
 | .ref a=>match M3 a,E9 y with
  | some (.dN kvs),some k=>kvs.length < sizeLine/\D.nx τ (mup M3 a (.dN (jF kvs k v)))
  | _,_=>False
 | _=>False
theorem Ny {tpos:Pos} (he:aT D e te) (ho:aT D o to) (hi:aT D i ti) (hs:∀ env,swapsWith e (some (.Subscript o i tpos)) pos.line env=pure false:=by intro _;rfl):pZ D (.Assign [.Subscript o i tpos] e pos) (JS te to ti):=by
 obtain ⟨_,p1,s1⟩:=he;obtain ⟨_,p2,s2⟩:=ho;obtain ⟨_,p3,s3⟩:=hi;refine ⟨_,fun X h=>L5 (Ex h.room) (p2 X h) (p3 X h) (p1 X h) (hs _),fun σ τ H M D' rs rm h EE d=>?_⟩;refine s1 σ τ H M _ rs rm h _ fun v vv M1 H1 st1 rm1 rv h1=>?_;refine s2 σ τ H1 M1 _ (rs.stp st1) rm1 h1 _ fun x vx M2 H2 cO rm2 rx h2=>?_;refine s3 σ τ H2 M2 _ ((rs.stp st1).stp cO) rm2 h2 _ fun y vy M3 H3 st3 rm3 ry h3=>?_;have rv3:=(rv.stp cO).stp st3;have rs3:=((rs.stp st1).stp cO).stp st3
 cases x with
 | ref a =>
  cases (rx.stp st3).ref;dsimp only at h3;split at h3
  ·rename_i kvs k e1 e2
   obtain ⟨hl,q⟩:=h3;obtain ⟨ws,hv,r⟩:=rm3 a _ e1;obtain ⟨b,rfl,hb⟩:=GU ry e2;have st4:aQ H3 M3 (upd H3 a (.dN (putK ws k vv))) (mup M3 a (.dN (jF kvs k v))):=aQ.write e1;have rnew:RelM D.K (upd H3 a (.dN (putK ws k vv))) (mup M3 a (.dN (jF kvs k v))):=rm3.put st4 ⟨_,bY,(r.put k rv3).stp st4⟩;exact ⟨a,_,rfl,⟨ws,k,b,hv,rfl,hb,by rw [<- r.length];exact hl,rfl⟩,d.nx _ _ _ _ (((st1.trans cO).trans st3).trans st4) rnew (rs3.stp st4) q⟩
  ·exact h3.elim
 | _=>exact h3.elim
end
end U2
namespace L2
open PySem PySem.Spec PyProof.Rows
end L2
namespace U2
open PySem PySem.Spec PyProof.Rows L2
end U2
namespace L2
open PySem PySem.Spec PyProof.Rows U2
def Iu (ws all:List (Key × V)) (c:Str):List V:=ws.filterMap fun p=>if p.1=.inr c then kA all (.inr c) else none
end L2
namespace U2
open PySem PySem.Spec PyProof.Rows L2
def G8 (kvs all:List (Key × U)) (c:Str):List U:=kvs.filterMap fun p=>if p.1=.inr c then dS all (.inr c) else none
theorem TU (p:Key × U) (kvs all:List (Key × U)) (c:Str):G8 (p :: kvs) all c=(if p.1=.inr c then dS all (.inr c) else none).toList++G8 kvs all c:=by
 unfold G8;rw [List.filterMap_cons];generalize (if p.1=Sum.inr c then dS all (.inr c) else none)=z;cases z <;> rfl
theorem T1 (p:Key × V) (kvs all:List (Key × V)) (c:Str):Iu (p :: kvs) all c=(if p.1=.inr c then kA all (.inr c) else none).toList++Iu kvs all c:=by
 unfold Iu;rw [List.filterMap_cons];generalize (if p.1=Sum.inr c then kA all (.inr c) else none)=z;cases z <;> rfl
variable {D:Dat} {pos:Pos}
end U2
namespace PySem
open Sem (wp)
namespace F
end F
section
variable {prog:Program} {w:World} {A:Around} {E:Value->Shared->Prop} {h:Heap} {g:Array GenState} {d:Drawn} {t:Nat} {os:OsState} {a:Addr} {o:Obj}
end
end PySem
namespace L2
open PySem PySem.Spec PyProof.Rows
end L2
namespace U2
open PySem PySem.Spec PyProof.Rows L2
def U4:Int->List Int->Int
 | m,[]=>m
 | m,n :: ns=>U4 (if n < m then n else m) ns
section
variable {X:Cx}
end
end U2
namespace L2
open PySem
variable {q:List Value->Prop}
theorem Gd (h:q []) (us:List Value) (e:us.length=0):q us:=by rw [List.length_eq_zero_iff.mp e];exact h
theorem mC {n:Nat} (h:∀ x us,us.length=n->q (x :: us)) (us:List Value) (e:us.length=n + 1):q us:=by
 cases us with
 | nil=>cases e
 | cons x r=>exact h x r (Nat.succ.inj e)
abbrev Ar:=Value->Value->Value->Option Addr->Value->Value->List Value->Prop
variable {p:Ar}
theorem CA (h:∀ a b c d e g x0,p a b c d e g [x0]) (a b c d e g):∀ us,us.length=1->p a b c d e g us:=mC fun x0=>Gd (h a b c d e g x0)
theorem rQ (h:∀ a b c d e g x0 x1,p a b c d e g [x0,x1]) (a b c d e g):∀ us,us.length=2->p a b c d e g us:=mC fun x0=>mC fun x1=>Gd (h a b c d e g x0 x1)
theorem uD (h:∀ a b c d e g x0 x1 x2,p a b c d e g [x0,x1,x2]) (a b c d e g):∀ us,us.length=3->p a b c d e g us:=mC fun x0=>mC fun x1=>mC fun x2=>Gd (h a b c d e g x0 x1 x2)
theorem Sn (h:∀ a b c d e g x0 x1 x2 x3,p a b c d e g [x0,x1,x2,x3]) (a b c d e g):∀ us,us.length=4->p a b c d e g us:=mC fun x0=>mC fun x1=>mC fun x2=>mC fun x3=>Gd (h a b c d e g x0 x1 x2 x3)
theorem V3 (h:∀ a b c d e g x0 x1 x2 x3 x4,p a b c d e g [x0,x1,x2,x3,x4]) (a b c d e g):∀ us,us.length=5->p a b c d e g us:=mC fun x0=>mC fun x1=>mC fun x2=>mC fun x3=>mC fun x4=>Gd (h a b c d e g x0 x1 x2 x3 x4)
theorem VX (h:∀ a b c d e g x0 x1 x2 x3 x4 x5,p a b c d e g [x0,x1,x2,x3,x4,x5]) (a b c d e g):∀ us,us.length=6->p a b c d e g us:=mC fun x0=>mC fun x1=>mC fun x2=>mC fun x3=>mC fun x4=>mC fun x5=>Gd (h a b c d e g x0 x1 x2 x3 x4 x5)
end L2
namespace U2
open PySem PySem.Spec PyProof.Rows L2
variable {N:List Str}
theorem fS {P:List Str} {sc:Scope} (a:sc.kind=.function:=by rfl) (b:sc.isCoroutine=false:=by rfl) (c:sc.isGenerator=false:=by rfl) (d:N.Nodup:=by decide +kernel) (e:N.take P.length=P:=by rfl) (f:∀ x∈P,sc.names.lookup x=some .local\/sc.names.lookup x=some .cell:=by decide +kernel) (g:∀ y∈sc.names,y.2≠.free:=by decide +kernel):aV N P sc:=⟨a,b,c,d,e,f,g⟩
theorem nk {xs:List U} {I:Nat->SU->aG->Prop}:∀ i τ M,I i τ M->(Src.mk none xs).ok M:=fun _ _ _ _ _ e=>nomatch e
theorem bQ {P:Program} {w:World} {K:PySem.W.Frag} {mg:Str->Option Value} {base:Heap} {x:Str} {st:Stmt} {f:Addr} {fd:FuncData} {ps:List Str} {k:Nat} {sp:bE} {t:US} (F:cI K x x st f fd) (hm:mg x=some (.ref f)) (S:aV N ps (aL st))
  (bind:∀ (kV doc pm:Value) (an:Option Addr) (cdv ct:Value) (us:List Value),us.length=ps.length->bindArgs (PySem.W.fnOf x x (dJ st) (cA st) (aL st) .none kV doc pm an cdv ct) ⟨us,[]⟩=pure (ps.zip us))
  (h:mI ⟨P,w,K,mg,base,N,aL st,k,true,.none,""⟩ (cA st) t)
  (q:∀ us M Q,sp us M Q->us.length=ps.length/\t { nx:=fun _ M'=>kF Q .non M',rt:=kF Q } (dW N us) M):Callee P w K mg base (k + 1) x sp [] :=
 Ki F hm S bind (fun us M Q hs=>(q us M Q hs).1) h (fun us M Q hs=>(q us M Q hs).2)
end U2
namespace K53
open PySem L2 U2
def top (i:Nat):Stmt:=PySem.Challenge.pw_rowsmith_k53_whole_asked_once_kept_never.main.body.getD i (.Pass ⟨0,0,0,0⟩)
abbrev vG:Stmt:=top 5
theorem Fy:aV ["shape"] ["shape"] (aL vG):=fS
abbrev oO:Stmt:=top 6
theorem nK:aV ["shape","found","number","part"] ["shape"] (aL oO):=fS
abbrev uM:Stmt:=top 7
theorem oU:aV ["shape","place","here","number"] ["shape","place"] (aL uM):=fS
abbrev qC:Stmt:=top 8
theorem Fx:aV ["shape","of_leaf","of_sign"] ["shape","of_leaf","of_sign"] (aL qC):=fS
abbrev n9:Stmt:=top 9
theorem Ap:aV ["pattern","tree"] ["pattern","tree"] (aL n9):=fS
abbrev xW:Stmt:=top 10
theorem Hr:aV ["tile"] ["tile"] (aL xW):=fS
abbrev rF:Stmt:=top 11
theorem kG:aV ["table","found","tile","inner","piece"] ["table"] (aL rF):=fS
abbrev B6:Stmt:=top 13
theorem My:aV ["numbers","at","number"] ["numbers","at","number"] (aL B6):=fS
abbrev qX:Stmt:=top 14
theorem dC:aV ["table","classes","steps","found","start","prices","step","ahead","to","price"] ["table"] (aL qX):=fS
abbrev pK:Stmt:=top 15
theorem jR:aV ["wiring","prices","found","ahead","to","price"] ["wiring","prices"] (aL pK):=fS
abbrev pS:Stmt:=top 16
theorem jE:aV ["wiring","leaf","found","column","price","pattern"] ["wiring","leaf"] (aL pS):=fS
abbrev pU:Stmt:=top 17
theorem gM:aV ["wiring","word","parts","sums","column","price","draws","drawn"] ["wiring","word","parts"] (aL pU):=fS
abbrev mO:Stmt:=top 18
theorem jB:aV ["wiring","word","sums","found","rule","drawn"] ["wiring","word","sums"] (aL mO):=fS
abbrev nZ:Stmt:=top 20
theorem sH:aV ["wiring","leaf","labels","label"] ["wiring","leaf","labels"] (aL nZ):=fS
abbrev eO:Stmt:=top 21
theorem vY:aV ["wiring","tree","labels","prices"] ["wiring","tree","labels"] (aL eO):=fS
abbrev qS:Stmt:=top 22
theorem mF:aV ["table","web","wiring","found","tree"] ["table","web"] (aL qS):=fS
abbrev BO:Stmt:=top 25
theorem Lz:aV ["numbers"] ["numbers"] (aL BO):=fS
abbrev rL:Stmt:=top 26
theorem vX:aV ["wiring","kept","prices"] ["wiring","kept"] (aL rL):=fS
abbrev m3:Stmt:=top 27
theorem qV:aV ["wiring","state","own","kept","cost"] ["wiring","state","own","kept"] (aL m3):=fS
abbrev pO:Stmt:=top 28
theorem oH:aV ["wiring","state","goals","labels","reached"] ["wiring","state","goals"] (aL pO):=fS
abbrev xE:Stmt:=top 30
theorem IF:aV ["table"] ["table"] (aL xE):=fS
abbrev pN:Stmt:=top 31
theorem lP:aV ["table","web","count","tree"] ["table","web"] (aL pN):=fS
abbrev wH:Stmt:=top 32
theorem iV:aV ["table","web","goals","fronts","best","cuts","waiting","front","price"] ["table","web","goals"] (aL wH):=fS
abbrev uX:Stmt:=top 34
theorem lY:aV ["script","k","cell","digits"] ["script","k"] (aL uX):=fS
abbrev u6:Stmt:=top 35
theorem zL:aV ["feed","many","found"] ["feed","many"] (aL u6):=fS
abbrev rC:Stmt:=top 36
theorem eZ:aV ["feed","many","letters","filler","first","step","size","place","back"] ["feed","many"] (aL rC):=fS
abbrev Tx:Stmt:=top 37
abbrev oZ:Stmt:=top 38
theorem nG:aV ["feed","classes","deep","way","low","sign"] ["feed","classes","deep"] (aL oZ):=fS
abbrev pP:Stmt:=top 39
theorem lK:aV ["feed","classes","cls","way","others","sign"] ["feed","classes","cls"] (aL pP):=fS
abbrev tF:Stmt:=top 40
theorem dA:aV ["feed","most","classes","many","names","skipped","tiles","k","cls","fee","pattern"] ["feed","most"] (aL tF):=fS
abbrev vK:Stmt:=top 41
theorem Fv:aV ["feed","names"] ["feed","names"] (aL vK):=fS
abbrev q9:Stmt:=top 42
theorem mG:aV ["feed","names","number","way","piece","sign"] ["feed","names","number"] (aL q9):=fS
abbrev qH:Stmt:=top 43
theorem nQ:aV ["script","k","table","feed","names","many","web","place","goals"] ["script"] (aL qH):=fS
abbrev O1:Stmt:=(match top 2 with | .ClassDef _ _ _ b _ _ _ _ _ _ _=>b | _=>[]).getD 0 (.Pass ⟨0,0,0,0⟩)
abbrev iJ:Stmt:=(match top 12 with | .ClassDef _ _ _ b _ _ _ _ _ _ _=>b | _=>[]).getD 0 (.Pass ⟨0,0,0,0⟩)
theorem lG:aV ["self","table","word","tile","part"] ["self","table"] (aL iJ):=fS
abbrev iP:Stmt:=(match top 12 with | .ClassDef _ _ _ b _ _ _ _ _ _ _=>b | _=>[]).getD 1 (.Pass ⟨0,0,0,0⟩)
theorem oB:aV ["self","column","price","pattern","number","draws"] ["self","column","price","pattern"] (aL iP):=fS
abbrev iM:Stmt:=(match top 29 with | .ClassDef _ _ _ b _ _ _ _ _ _ _=>b | _=>[]).getD 0 (.Pass ⟨0,0,0,0⟩)
theorem Br:aV ["self","table","web","goals"] ["self","table","web","goals"] (aL iM):=fS
abbrev eV:Stmt:=(match top 29 with | .ClassDef _ _ _ b _ _ _ _ _ _ _=>b | _=>[]).getD 1 (.Pass ⟨0,0,0,0⟩)
theorem dZ:aV ["self","front","state","number","kept","ahead"] ["self","front"] (aL eV):=fS
inductive Op where
 | sum | less | by_
def Op.word:Op->Str
 | .sum=>"sum" | .less=>"less" | .by_=>"by"
inductive Tr where
 | num (n:Int) | name (x:Str) | turn (a:Tr) | two (o:Op) (a b:Tr)
def Tr.toU:Tr->U
 | .num n=>.tup [.str "num",.int n]
 | .name x=>.tup [.str "name",.str x]
 | .turn a=>.tup [.str "turn",a.toU]
 | .two o a b=>.tup [.str o.word,a.toU,b.toU]
def Tr.ok:Tr->Prop
 | .num _=>True
 | .name x=>PyData.strOk x=true/\x.length<=100
 | .turn a=>a.ok
 | .two _ a b=>a.ok/\b.ok
def Tr.dep:Tr->Nat
 | .num _=>1
 | .name _=>1
 | .turn a=>a.dep + 1
 | .two _ a b=>max a.dep b.dep + 1
inductive Pt where
 | hole (c:Str) | any | fr (l h:Int) | turn (a:Pt) | two (o:Op) (a b:Pt)
def Pt.toU:Pt->U
 | .hole c=>.tup [.str "at",.str c]
 | .any=>.tup [.str "any"]
 | .fr l h=>.tup [.str "from",.int l,.int h]
 | .turn a=>.tup [.str "turn",a.toU]
 | .two o a b=>.tup [.str o.word,a.toU,b.toU]
def Pt.ok:Pt->Prop
 | .hole c=>PyData.strOk c=true
 | .any=>True
 | .fr l h=>0<=l/\l<=h
 | .turn a=>a.ok
 | .two _ a b=>a.ok/\b.ok
def Pt.dep:Pt->Nat
 | .hole _=>1
 | .any=>1
 | .fr _ _=>1
 | .turn a=>a.dep + 1
 | .two _ a b=>max a.dep b.dep + 1
def Pt.holes:Pt->Nat
 | .hole _=>1
 | .any=>0
 | .fr _ _=>0
 | .turn a=>a.holes
 | .two _ a b=>a.holes + b.holes
def Pt.leafy:Pt->Bool
 | .turn _=>false
 | .two _ _ _=>false
 | _=>true
def Pt.ends:Pt->List Pt
 | .turn a=>a.ends
 | .two _ a b=>a.ends++b.ends
 | p=>[p]
instance:DecidableEq Op:=fun a b=>by cases a <;> cases b <;> first | exact isTrue rfl | exact isFalse (fun h=>nomatch h)
def pQ:Pt->Tr->Bool
 | .hole _,_=>true
 | .any,.name _=>true
 | .any,_=>false
 | .fr l h,.num n=>decide (l<=n) && decide (n<=h)
 | .fr _ _,_=>false
 | .turn p,.turn a=>pQ p a
 | .turn _,_=>false
 | .two o p q,.two o' a b=>decide (o=o') && (pQ p a && pQ q b)
 | .two _ _ _,_=>false
def cY:List (Str × Fl):=[("turn",.int 1),("sum",.int 2),("less",.int 2),("by",.int 2)]
theorem vN (x y:Str):(x++y).cps.toList=x.cps.toList++y.cps.toList:=by
 show (x.cps++y.cps).toList=_
 simp
variable {n:Nat}
theorem small (h:n<=100000):n<=sizeLine:=Nat.le_trans h (by decide)
theorem Gj (h:n<=100000):(n<=sizeLine)=True:=eq_true (small h)
theorem NG:(Str.ofString "at"=Str.ofString "any")=False:=eq_false (by decide +kernel)
theorem Kq:(Str.ofString "at"=Str.ofString "from")=False:=eq_false (by decide +kernel)
theorem J9:(Str.ofString "at"=Str.ofString "turn")=False:=eq_false (by decide +kernel)
theorem L8:(Str.ofString "at"=Str.ofString "num")=False:=eq_false (by decide +kernel)
theorem Kg:(Str.ofString "at"=Str.ofString "name")=False:=eq_false (by decide +kernel)
theorem MC:(Str.ofString "any"=Str.ofString "at")=False:=eq_false (by decide +kernel)
theorem Iw:(Str.ofString "any"=Str.ofString "from")=False:=eq_false (by decide +kernel)
theorem Io:(Str.ofString "any"=Str.ofString "turn")=False:=eq_false (by decide +kernel)
theorem KU:(Str.ofString "any"=Str.ofString "num")=False:=eq_false (by decide +kernel)
theorem Ik:(Str.ofString "any"=Str.ofString "name")=False:=eq_false (by decide +kernel)
theorem Lp:(Str.ofString "from"=Str.ofString "at")=False:=eq_false (by decide +kernel)
theorem Ib:(Str.ofString "from"=Str.ofString "any")=False:=eq_false (by decide +kernel)
theorem FV:(Str.ofString "from"=Str.ofString "turn")=False:=eq_false (by decide +kernel)
theorem ID:(Str.ofString "from"=Str.ofString "num")=False:=eq_false (by decide +kernel)
theorem FX:(Str.ofString "from"=Str.ofString "name")=False:=eq_false (by decide +kernel)
theorem Kv:(Str.ofString "turn"=Str.ofString "at")=False:=eq_false (by decide +kernel)
theorem Hs:(Str.ofString "turn"=Str.ofString "any")=False:=eq_false (by decide +kernel)
theorem FE:(Str.ofString "turn"=Str.ofString "from")=False:=eq_false (by decide +kernel)
theorem Hy:(Str.ofString "turn"=Str.ofString "num")=False:=eq_false (by decide +kernel)
theorem Fz:(Str.ofString "turn"=Str.ofString "name")=False:=eq_false (by decide +kernel)
theorem NR:(Str.ofString "num"=Str.ofString "at")=False:=eq_false (by decide +kernel)
theorem JB:(Str.ofString "num"=Str.ofString "any")=False:=eq_false (by decide +kernel)
theorem HP:(Str.ofString "num"=Str.ofString "from")=False:=eq_false (by decide +kernel)
theorem HZ:(Str.ofString "num"=Str.ofString "turn")=False:=eq_false (by decide +kernel)
theorem HH:(Str.ofString "num"=Str.ofString "name")=False:=eq_false (by decide +kernel)
theorem KH:(Str.ofString "name"=Str.ofString "at")=False:=eq_false (by decide +kernel)
theorem Hv:(Str.ofString "name"=Str.ofString "any")=False:=eq_false (by decide +kernel)
theorem FQ:(Str.ofString "name"=Str.ofString "from")=False:=eq_false (by decide +kernel)
theorem Fw:(Str.ofString "name"=Str.ofString "turn")=False:=eq_false (by decide +kernel)
theorem IV:(Str.ofString "name"=Str.ofString "num")=False:=eq_false (by decide +kernel)
theorem RG (o:Op):(o.word=Str.ofString "at")=False:=eq_false (by cases o <;> decide +kernel)
theorem Pn (o:Op):(o.word=Str.ofString "any")=False:=eq_false (by cases o <;> decide +kernel)
theorem L0 (o:Op):(o.word=Str.ofString "from")=False:=eq_false (by cases o <;> decide +kernel)
theorem ME (o:Op):(o.word=Str.ofString "turn")=False:=eq_false (by cases o <;> decide +kernel)
theorem Pw (o:Op):(o.word=Str.ofString "num")=False:=eq_false (by cases o <;> decide +kernel)
theorem LW (o:Op):(o.word=Str.ofString "name")=False:=eq_false (by cases o <;> decide +kernel)
theorem Rl (o:Op):(Str.ofString "at"=o.word)=False:=eq_false (by cases o <;> decide +kernel)
theorem Po (o:Op):(Str.ofString "any"=o.word)=False:=eq_false (by cases o <;> decide +kernel)
theorem Nu (o:Op):(Str.ofString "from"=o.word)=False:=eq_false (by cases o <;> decide +kernel)
theorem MD (o:Op):(Str.ofString "turn"=o.word)=False:=eq_false (by cases o <;> decide +kernel)
theorem OX (o:Op):(Str.ofString "num"=o.word)=False:=eq_false (by cases o <;> decide +kernel)
theorem NO (o:Op):(Str.ofString "name"=o.word)=False:=eq_false (by cases o <;> decide +kernel)
theorem xP:(Str.ofString "at"=Str.ofString "any")=False/\(Str.ofString "at"=Str.ofString "from")=False/\(Str.ofString "at"=Str.ofString "turn")=False/\(Str.ofString "at"=Str.ofString "num")=False/\(Str.ofString "at"=Str.ofString "name")=False/\(Str.ofString "any"=Str.ofString "at")=False:=⟨NG,Kq,J9,L8,Kg,MC⟩
theorem wM:(Str.ofString "any"=Str.ofString "from")=False/\(Str.ofString "any"=Str.ofString "turn")=False/\(Str.ofString "any"=Str.ofString "num")=False/\(Str.ofString "any"=Str.ofString "name")=False/\(Str.ofString "from"=Str.ofString "at")=False/\(Str.ofString "from"=Str.ofString "any")=False:=⟨Iw,Io,KU,Ik,Lp,Ib⟩
theorem v9:(Str.ofString "from"=Str.ofString "turn")=False/\(Str.ofString "from"=Str.ofString "num")=False/\(Str.ofString "from"=Str.ofString "name")=False/\(Str.ofString "turn"=Str.ofString "at")=False/\(Str.ofString "turn"=Str.ofString "any")=False/\(Str.ofString "turn"=Str.ofString "from")=False:=⟨FV,ID,FX,Kv,Hs,FE⟩
theorem xX:(Str.ofString "turn"=Str.ofString "num")=False/\(Str.ofString "turn"=Str.ofString "name")=False/\(Str.ofString "num"=Str.ofString "at")=False/\(Str.ofString "num"=Str.ofString "any")=False/\(Str.ofString "num"=Str.ofString "from")=False/\(Str.ofString "num"=Str.ofString "turn")=False:=⟨Hy,Fz,NR,JB,HP,HZ⟩
theorem xK:(Str.ofString "num"=Str.ofString "name")=False/\(Str.ofString "name"=Str.ofString "at")=False/\(Str.ofString "name"=Str.ofString "any")=False/\(Str.ofString "name"=Str.ofString "from")=False/\(Str.ofString "name"=Str.ofString "turn")=False/\(Str.ofString "name"=Str.ofString "num")=False:=⟨HH,KH,Hv,FQ,Fw,IV⟩
theorem xT:(∀ o:Op,(o.word=Str.ofString "at")=False)/\(∀ o:Op,(o.word=Str.ofString "any")=False)/\(∀ o:Op,(o.word=Str.ofString "from")=False)/\(∀ o:Op,(o.word=Str.ofString "turn")=False)/\(∀ o:Op,(o.word=Str.ofString "num")=False)/\(∀ o:Op,(o.word=Str.ofString "name")=False):=⟨RG,Pn,L0,ME,Pw,LW⟩
theorem xZ:(∀ o:Op,(Str.ofString "at"=o.word)=False)/\(∀ o:Op,(Str.ofString "any"=o.word)=False)/\(∀ o:Op,(Str.ofString "from"=o.word)=False)/\(∀ o:Op,(Str.ofString "turn"=o.word)=False)/\(∀ o:Op,(Str.ofString "num"=o.word)=False)/\(∀ o:Op,(Str.ofString "name"=o.word)=False):=⟨Rl,Po,Nu,MD,OX,NO⟩
section
variable {P:Program} {w:World} {K:PySem.W.Frag} {mg:Str->Option Value} {base:Heap} {f d d2 fl:Addr} {fd:FuncData}
variable {neg:Bool} {M:aG} {Q:UK}
theorem qQ {i j:Int}:Aa neg (.int i) (.int j) M Q=Q (.bl (if neg then !decide (i=j) else decide (i=j))) M:=rfl
theorem qO {i j:Str}:Aa neg (.str i) (.str j) M Q=Q (.bl (if neg then !decide (i=j) else decide (i=j))) M:=rfl
theorem big {k:Nat} (h:k < 100000):k < sizeLine:=Nat.lt_of_lt_of_le h (by decide)
def j0:bE:=fun us M Q=>∃ (z:Str) (r:List U) (b:Bool),us=[.tup (.str z :: r)]/\(cJ cY z).isSome=b/\r.length<=1000/\Q (.tup (if b then r else [])) M
end
def zzS (s : String) : Lean.MacroM (Array (Lean.TSyntax `Lean.Parser.Tactic.simpLemma)) := (s.splitOn " ").toArray.mapM fun n => `(Lean.Parser.Tactic.simpLemma| $(Lean.mkIdent n.toName):ident)
local macro_rules | `(tactic| simp! only [$xs,*] $[$l]?) => do `(tactic| simp only [$xs,*, $(← zzS "As Ax B1 BB BD BP BS Bool.false_eq_true Bool.not_false Bool.not_true By CH Ca Cc Cg Ci ER El Et F8 Fe G3 GS Gj List.append_nil List.cons_append List.getElem?_cons_succ List.getElem?_cons_zero List.length_cons List.length_nil List.map_cons List.map_nil List.nil_append List.replicate List.set_cons_succ List.set_cons_zero Nat.add_sub_cancel Nat.reduceAdd Nat.reduceLeDiff Nat.reduceSub Nat.sub_self Option.getD_some Option.some.injEq aD aZ and_true at2 dW decide_false decide_true eB eQ eU eW eX exists_eq_left' fH fL gG gN gO gP gR gS gT hU i7 iA iB iC iD iE iF iG iH iI iK iL iN iO if_false if_true items jC jG jH jI jJ jK jL jN jO jP jQ jS kI kK kL kM l9 lJ lO mE mS mW mZ o7 oW p8 pB qA qB qF qG qI qO qQ qZ rD rT rZ reduceCtorEq sF sL sN sU tP tQ tS tU tW true_and u3 uC uF uI uK uO uZ vO vS w5 wB wD wO wY xB xG xR xU yC yG yP yV zC zQ zU"),*] $[$l]?)
local macro_rules | `(tactic| simp_all! only [$xs,*]) => do `(tactic| simp! only [$xs,*, $(← zzS "Bj Dr Dv aY bU cE dF eK hName iQ j5 kO lR mN oV wF zV"),*])
local macro_rules | `(tactic| dsimp! only [$xs,*] $[$l]?) => do `(tactic| simp! only [$xs,*, $(← zzS "DC HS Hd MT Oh VF dF eS iQ lR mY t8"),*] $[$l]?)
section
variable {P:Program} {w:World} {K:PySem.W.Frag} {mg:Str->Option Value} {base:Heap} {f d d2 fl:Addr} {fd:FuncData}
theorem FG (F:cI K "parts_of" "parts_of" vG f fd) (hm:mg "parts_of"=some (.ref f)) (fO:kR P w K d cY) (fF:mg "SIGNS"=some (.ref d)):Callee P w K mg base 1 "parts_of" j0 []:=by
 refine bQ F hm Fy (CA fun _ _ _ _ _ _ _=>rfl) (aJ (bC (Dt (cB (GD fO) (aP (uv 0) aO) (A5 fF)) (t9 (own:=false) (uv 0) (qM aO) qP) (bN aB)))) ?_;rintro us M Q ⟨z,r,b,rfl,hb,hl,q⟩;refine ⟨rfl,?_⟩
 simp_all! only [hb]
 cases b with
 | true =>
  simp_all! only [Q3]
  exact aU q
 | false =>
  simp_all! only [true_and]
  exact aU q
theorem BC:(cJ cY (Str.ofString "turn")).isSome=true:=by decide +kernel
theorem AX (o:Op):(cJ cY o.word).isSome=true:=by cases o <;> decide +kernel
def DR:bE:=fun us M Q=>∃ (p:Pt) (t:Tr),us=[p.toU,t.toU]/\(p=.any\/∃ l h,p=.fr l h)/\Q (.bl (pQ p t)) M
theorem L7:∀ p:Pt,1<=p.dep
 | .hole _=>Nat.le_refl _
 | .any=>Nat.le_refl _
 | .fr _ _=>Nat.le_refl _
 | .turn a=>by simp only [Pt.dep];omega
 | .two o a b=>by simp only [Pt.dep];omega
variable {i j:Int}
theorem mulL (h1:-(2 ^ 64) < i) (h2:i < 2 ^ 64):rR i j:=.inl (.inl ⟨h1,h2⟩)
theorem mulR (h1:-(2 ^ 64) < j) (h2:j < 2 ^ 64):rR i j:=.inl (.inr ⟨h1,h2⟩)
def aW (l:List Str):U:=.tup (l.map .str)
def bP:Pt->PyData
 | .hole c=>.tuple [.str "at",.str c]
 | .any=>.tuple [.str "any"]
 | .fr l h=>.tuple [.str "from",.int l,.int h]
 | .turn a=>.tuple [.str "turn",bP a]
 | .two o a b=>.tuple [.str o.word,bP a,bP b]
theorem zE:∀ p:Pt,toD p.toU=some (bP p)
 | .hole c=>by simp [Pt.toU,toD,cN,bP]
 | .any=>by simp [Pt.toU,toD,cN,bP]
 | .fr l h=>by simp [Pt.toU,toD,cN,bP]
 | .turn a=>by simp [Pt.toU,toD,cN,bP,zE a]
 | .two o a b=>by simp [Pt.toU,toD,cN,bP,zE a,zE b]
theorem uL:∀ p:Pt,p.ok->(bP p).canLay0=true
 | .hole c,h=>by
  have h':PyData.strOk c=true:=h;simp only [bP,PyData.canLay0,PyData.canLayAll0,h'];decide +kernel
 | .any,_=>by decide +kernel
 | .fr l h,_=>by simp only [bP,PyData.canLay0,PyData.canLayAll0];decide +kernel
 | .turn a,h=>by simp only [bP,PyData.canLay0,PyData.canLayAll0,uL a h];decide +kernel
 | .two o a b,h=>by
  have:PyData.strOk o.word=true:=by cases o <;> decide +kernel
  simp only [bP,PyData.canLay0,PyData.canLayAll0,uL a h.1,uL b h.2,this];decide +kernel
def oM:Tr->PyData
 | .num n=>.tuple [.str "num",.int n]
 | .name x=>.tuple [.str "name",.str x]
 | .turn a=>.tuple [.str "turn",oM a]
 | .two o a b=>.tuple [.str o.word,oM a,oM b]
theorem IY:∀ p:Tr,toD p.toU=some (oM p)
 | .num c=>by simp [Tr.toU,toD,cN,oM]
 | .name c=>by simp [Tr.toU,toD,cN,oM]
 | .turn a=>by simp [Tr.toU,toD,cN,oM,IY a]
 | .two o a b=>by simp [Tr.toU,toD,cN,oM,IY a,IY b]
theorem NF:∀ p:Tr,p.ok->(oM p).canLay0=true
 | .num c,h=>by simp only [oM,PyData.canLay0,PyData.canLayAll0];decide +kernel
 | .name c,h=>by
  have h':PyData.strOk c=true:=h.1;simp only [oM,PyData.canLay0,PyData.canLayAll0,h'];decide +kernel
 | .turn a,h=>by simp only [oM,PyData.canLay0,PyData.canLayAll0,NF a h];decide +kernel
 | .two o a b,h=>by
  have:PyData.strOk o.word=true:=by cases o <;> decide +kernel
  simp only [oM,PyData.canLay0,PyData.canLayAll0,NF a h.1,NF b h.2,this];decide +kernel
def VR (p:Pt):U:=.tup [p.toU,.int (p.dep:Nat)]
def B4:List Pt->Nat
 | []=>0
 | p :: r=>p.holes + B4 r
theorem Nw:∀ l r:List Pt,B4 (l++r)=B4 l + B4 r
 | [],_=>by simp [B4]
 | t :: l,r=>by simp [B4,Nw l r];omega
def V4 (n:Int):Op:=if n % 3=0 then .sum else if n % 3=1 then .less else .by_
variable {τ:SU} {M:aG}
theorem aH {u v:US} {D:qE} (h:∀ V:SU->aG->Prop,V=v D->u { D with nx:=V } τ M):zV u v D τ M:=h _ rfl
theorem bX {c:UT} {t u:US} {D:qE} (h:∀ A B:aG->Prop,A=t D τ->B=u D τ->c τ M fun b M1=>if b=true then A M1 else B M1):wF c t u D τ M:=h _ _ rfl rfl
def gA (p:List Nat):U:=.tup (p.map fun (n:Nat)=>.int (n:Int))
def Ae (x:List Nat × Pt):U:=.tup [gA x.1,x.2.toU]
def yU:Pt->List Nat->List (List Nat × Pt)
 | .turn a,pl=>yU a (pl++[0])
 | .two _ a b,pl=>yU a (pl++[0])++yU b (pl++[1])
 | p,pl=>[(pl,p)]
theorem uU:∀ (p:Pt) (pl:List Nat),(yU p pl).map (·.2)=p.ends
 | .turn a,pl=>by simp only [yU,Pt.ends,uU a]
 | .two _ a b,pl=>by simp only [yU,Pt.ends,List.map_append,uU a,uU b]
 | .hole _,pl=>rfl
 | .any,pl=>rfl
 | .fr _ _,pl=>rfl
def Hm:Pt->Tr->List U
 | .any,.name x=>[.str x]
 | .fr _ _,.num n=>[.int n]
 | .turn p,.turn a=>Hm p a
 | .two _ p q,.two _ a b=>Hm p a++Hm q b
 | _,_=>[]
def vL:dY:=fun x y M Q=>match x,y with
 | .bl i,.bl j=>Q (.bl (decide (i=j))) M
 | _,_=>False
def Pt.parts:Pt->List Pt
 | .turn a=>[a]
 | .two _ a b=>[a,b]
 | _=>[]
def gH:Pt->List Nat->List (List Nat × Pt)
 | .turn a,pl=>(pl,.turn a) :: gH a (pl++[0])
 | .two o a b,pl=>(pl,.two o a b) :: (gH a (pl++[0])++gH b (pl++[1]))
 | p,pl=>[(pl,p)]
def Pt.places:Pt->List (List Nat)
 | .turn a=>[] :: a.places.map (0 :: ·)
 | .two _ a b=>[] :: (a.places.map (0 :: ·)++b.places.map (1 :: ·))
 | _=>[[]]
theorem oR:∀ (p:Pt) (pl:List Nat),(gH p pl).map (·.1)=p.places.map (pl++·)
 | .turn a,pl=>by simp [gH,Pt.places,oR a]
 | .two o a b,pl=>by
  simp only [gH,Pt.places,List.map_cons,List.map_append,oR a,oR b,List.map_map,List.append_nil]
  simp [Function.comp_def]
 | .hole _,pl=>by simp [gH,Pt.places]
 | .any,pl=>by simp [gH,Pt.places]
 | .fr _ _,pl=>by simp [gH,Pt.places]
theorem places_len:∀ p:Pt,p.places.length < 2 ^ p.dep
 | .turn a=>by have:=places_len a;simp only [Pt.places,Pt.dep,List.length_cons,List.length_map,Nat.pow_succ];omega
 | .two _ a b=>by
  have h1:=places_len a;have h2:=places_len b;have h3:2 ^ a.dep<=2 ^ max a.dep b.dep:=Nat.pow_le_pow_right (by decide) (Nat.le_max_left _ _);have h4:2 ^ b.dep<=2 ^ max a.dep b.dep:=Nat.pow_le_pow_right (by decide) (Nat.le_max_right _ _);simp only [Pt.places,Pt.dep,Nat.pow_succ,List.length_cons,List.length_append,List.length_map];omega
 | .hole _=>by simp [Pt.places,Pt.dep]
 | .any=>by simp [Pt.places,Pt.dep]
 | .fr _ _=>by simp [Pt.places,Pt.dep]
theorem oP:∀ (p:Pt) (pl:List Nat),pl∈p.places->pl.length < p.dep
 | .turn a,pl,h=>by
  simp only [Pt.places,List.mem_cons,List.mem_map] at h
  rcases h with rfl | ⟨q,hq,rfl⟩
  ·simp [Pt.dep]
  ·have:=oP a q hq;simp only [Pt.dep,List.length_cons];omega
 | .two o a b,pl,h=>by
  simp only [Pt.places,List.mem_cons,List.mem_append,List.mem_map] at h
  rcases h with rfl | ⟨q,hq,rfl⟩ | ⟨q,hq,rfl⟩
  ·simp [Pt.dep]
  ·have:=oP a q hq;simp only [Pt.dep,List.length_cons];omega
  ·have:=oP b q hq;simp only [Pt.dep,List.length_cons];omega
 | .hole _,pl,h=>by simp [Pt.places] at h;subst h;simp [Pt.dep]
 | .any,pl,h=>by simp [Pt.places] at h;subst h;simp [Pt.dep]
 | .fr _ _,pl,h=>by simp [Pt.places] at h;subst h;simp [Pt.dep]
def rN (n:Nat):bE:=fun us M Q=>∃ p:Pt,us=[p.toU]/\p.dep<=n/\n<=10/\Q (.lst (p.places.map gA)) M
theorem Vd:(cJ cY (Str.ofString "at")).isSome=false:=by decide +kernel
theorem N7:(cJ cY (Str.ofString "any")).isSome=false:=by decide +kernel
theorem KY:(cJ cY (Str.ofString "from")).isSome=false:=by decide +kernel
theorem xA (p:Pt):∃ z r,p.toU=.tup (.str z :: r)/\(cJ cY z).isSome=!p.leafy/\(p.leafy=false->r=p.parts.map Pt.toU)/\r.length<=3:=by
 cases p with
 | hole c=>exact ⟨_,_,rfl,Vd,(fun h=>by cases h),by simp⟩
 | any=>exact ⟨_,_,rfl,N7,(fun h=>by cases h),by simp⟩
 | fr l h=>exact ⟨_,_,rfl,KY,(fun h=>by cases h),by simp⟩
 | turn a=>exact ⟨_,_,rfl,BC,fun _=>rfl,by simp⟩
 | two o a b=>exact ⟨_,_,rfl,AX o,fun _=>rfl,by simp⟩
variable {p:Pt}
theorem IZ (h:p.leafy=true):p.parts=[]:=by cases p <;> first | rfl | cases h
def c6:Nat->List Pt->List (List Nat)
 | _,[]=>[]
 | k,a :: r=>a.places.map (k :: ·)++c6 (k + 1) r
theorem places_eq (p:Pt):p.places=[] :: c6 0 p.parts:=by cases p <;> simp [Pt.places,Pt.parts,c6]
theorem Ic (l:List Pt) (a:Pt):∀ k,c6 k (l++[a])=c6 k l++a.places.map ((k + l.length) :: ·):=by
 induction l with
 | nil=>intro k;simp [c6]
 | cons b l ih=>intro k;simp only [List.cons_append,c6,ih,List.length_cons,List.append_assoc];rw [show k + 1 + l.length=k + (l.length + 1) by omega]
theorem MN (p:Pt) (i:Nat):(c6 0 (p.parts.take i)).length + 1<=p.places.length:=by
 have:∀ (l:List Pt) (k j:Nat),(c6 k (l.take j)).length<=(c6 k l).length:=by
  intro l
  induction l with
  | nil=>intro k j;simp [c6]
  | cons a l ih =>
   intro k j
   cases j with
   | zero=>simp [c6]
   | succ j=>simp only [List.take_succ_cons,c6,List.length_append];have:=ih (k + 1) j;omega
 have h1:=this p.parts 0 i;rw [places_eq p,List.length_cons];omega
variable {i:Nat}
theorem MP {a:Pt} (h:p.parts[i]?=some a):a.dep < p.dep:=by
 have hm:=List.mem_of_getElem? h
 cases p with
 | turn b =>
  have:a=b:=by simpa [Pt.parts] using hm
  subst this;simp only [Pt.dep];omega
 | two o b c =>
  have:a=b\/a=c:=by simpa [Pt.parts] using hm
  simp only [Pt.dep]
  rcases this with rfl | rfl <;> omega
 | _=>cases hm
theorem EK {n:Nat} (F:cI K "places_of" "places_of" oO f fd) (hm:mg "places_of"=some (.ref f)) (dB:mg "enumerate"=none)
  (dD:Callee P w K mg base 1 "parts_of" j0 []) (sY:Callee P w K mg base (n + 1) "places_of" (rN n) []):Callee P w K mg base (n + 2) "places_of" (rN (n + 1)) []:=by
 refine bQ F hm nK (CA fun _ _ _ _ _ _ _=>rfl) (aE (aR 1 nK.nd (cG (own:=true) (aA (bN aB) aB)))
 (aE (eI (wQ dB (aA (aK dD (aA (uv 0) aB)) aB)) (lZ (n:=2) (bV (aX (k:=1000) 2 nK.nd) (bV (aX (k:=1000) 3 nK.nd) kJ)))
 (aJ (dM (xV (uv 1) (aA (nY false ["place","number"] 1 [2] (eA (aK sY (aA (uv 3) aB))) (aX (k:=1) 0 (by dsimp only [bZ];decide +kernel)) lH (cQ (own:=false) (bN (aA (uv 1) aB)) (uv 0))) aB)))))
 (aJ (bC (uv 1))))) ?_
 rintro us M Q ⟨t,rfl,hd,hz,q⟩;refine ⟨rfl,?_⟩
 have hbig:∀ a:Pt,a.dep<=10->a.places.length<=1024:=fun a ha=>by
  have h1:=places_len a;have h2:2 ^ a.dep<=2 ^ 10:=Nat.pow_le_pow_right (by decide) ha;omega
 simp_all! only [fC,vL]
 refine fun p hp=>?_
 refine eP (S:=⟨none,numbered (t.parts.map Pt.toU)⟩) (M1:=mup M p (.lst [.tup []])) (fun R r=>?_)
  (fun i τ Mi=>∃ b c,τ=[some t.toU,some (.ref p),b,c]/\Mi=mup M p (.lst (([] :: c6 0 (t.parts.take i)).map gA))) ⟨none,none,rfl,rfl⟩ nk ?_ ?_
 ·obtain ⟨z,rr,e,e1,e2,e3⟩:=xA t
  refine ⟨z,rr,!t.leafy,by rw [<- e];rfl,e1,by omega,?_⟩
  cases hl:t.leafy with
  | true=>simp only [hl,Bool.not_true,Bool.false_eq_true,if_false];rw [IZ hl] at r;exact r
  | false=>simp only [hl,Bool.not_false,if_true];rw [e2 hl];exact r
 ·rintro i x τ Mi e ⟨b,c,rfl,rfl⟩
  obtain ⟨u,hu,rfl⟩:=nR e;rw [List.getElem?_map] at hu
  cases hp':t.parts[i]? with
  | none=>rw [hp'] at hu;cases hu
  | some a =>
   rw [hp'] at hu;cases hu;have ha:=MP hp'
   have hin:c6 0 (t.parts.take (i + 1))=c6 0 (t.parts.take i)++a.places.map (i :: ·):=by
    have hlt:=(List.getElem?_eq_some_iff.mp hp').1;rw [List.take_add_one,hp']
    have:=Ic (t.parts.take i) a 0
    rw [List.length_take,Nat.min_eq_left (Nat.le_of_lt hlt),Nat.zero_add] at this;exact this
   have hb1:=hbig a (by omega)
   simp_all! only [fC,vL]
   refine ⟨FZ,jY (S:=⟨none,a.places.map gA⟩) (M1:=mup M p (MO.lst (gA [] :: List.map gA (c6 0 (List.take i t.parts))))) (a.places.map fun pl=>gA (i :: pl)) (fun R r'=>⟨a,rfl,by omega,by omega,r'⟩) (by simp) ?_ (fun a e=>by cases e) ?_ ?_⟩
   ·show (a.places.map gA).length<=sizeLine
    rw [List.length_map];exact small (by omega)
   ·intro j x y hx hy M' _ R r'
    have hx':(a.places.map gA)[j]?=some x:=hx;rw [List.getElem?_map] at hx' hy
    cases hpl:a.places[j]? with
    | none=>rw [hpl] at hx';cases hx'
    | some pl =>
     rw [hpl] at hx' hy;cases hx';cases hy;have h1:=oP a pl (List.mem_of_getElem? hpl)
     simp_all! only [gA,fC,vL]
     refine ⟨small ?_,?_⟩
     ·simp only [List.length_cons,List.length_nil,List.length_map];omega
     ·simpa [gA] using r'
   ·have h1:=MN t i
    have h2:=hbig t (by omega)
    simp_all! only [fC,vL]
    refine ⟨small ?_,_,_,rfl,?_⟩
    ·simp only [List.length_map];omega
    ·rw [hin,List.map_append,List.map_map];rfl
 ·rintro τ Mi ⟨b,c,rfl,rfl⟩
  rw [kX,List.length_map,List.take_length,<- places_eq]
  simp_all! only [fC,vL]
  exact ⟨_,M,(Sub.refl M).mup hp,.inr ⟨p,_,rfl,aD,hp,rfl⟩,q⟩
theorem Bb (F:cI K "places_of" "places_of" oO f fd) (hm:mg "places_of"=some (.ref f)) (dB:mg "enumerate"=none) (dD:Callee P w K mg base 1 "parts_of" j0 []):∀ n,Callee P w K mg base (n + 1) "places_of" (rN n) []
 | 0=>by
  have no:∀ us M Q,¬ rN 0 us M Q:=fun us M Q h=>by
   obtain ⟨p,_,h,_⟩:=h
   have:=L7 p
   omega
  refine ⟨f,fd,["shape"],[],[],⟨fun vs H Q E h=>?_,fun A outer s H args us vs Q E _ _ _ _ h=>?_⟩,hm,F.kp,F.binds (CA fun _ _ _ _ _ _ _=>rfl),.nil,fun H M=>.nil⟩
  ·obtain ⟨us,M,Q',_,_,h,_⟩:=h;exact absurd h (no us M Q')
  ·obtain ⟨us,M,Q',_,_,h,_⟩:=h;exact absurd h (no us M Q')
 | n + 1=>EK F hm dB dD (Bb F hm dB dD n)
def jX:U->Nat->Option U
 | .tup (.str z :: r),k=>if (cJ cY z).isSome then (if r.length<=1000 then r[k]? else none) else none
 | _,_=>none
def pY:U->List Nat->Option U
 | u,[]=>some u
 | u,k :: pl=>(jX u k).bind fun v=>pY v pl
theorem L1 {h w:U} {k:Nat} (e:jX h k=some w):∃ z r,h=.tup (.str z :: r)/\(cJ cY z).isSome=true/\r.length<=1000/\r[k]?=some w:=by
 match h,e with
 | .tup (.str z :: r),e =>
  simp only [jX] at e;split at e
  ·rename_i h1
   split at e
   ·rename_i h2
    exact ⟨z,r,rfl,h1,h2,e⟩
   ·cases e
  ·cases e
 | .tup [],e=>cases e
 | .tup (.non :: _),e=>cases e
 | .tup (.bl _ :: _),e=>cases e
 | .tup (.int _ :: _),e=>cases e
 | .tup (.ty _ :: _),e=>cases e
 | .tup (.ref _ :: _),e=>cases e
 | .tup (.tup _ :: _),e=>cases e
 | .tup (.lst _ :: _),e=>cases e
 | .non,e=>cases e
 | .bl _,e=>cases e
 | .int _,e=>cases e
 | .str _,e=>cases e
 | .ty _,e=>cases e
 | .ref _,e=>cases e
 | .lst _,e=>cases e
theorem EB:∀ (l:List Nat) (u:U) (k:Nat),pY u (l++[k])=(pY u l).bind fun v=>jX v k
 | [],u,k=>by simp only [List.nil_append,pY,Option.bind_some];cases jX u k <;> rfl
 | j :: l,u,k=>by
  simp only [List.cons_append,pY]
  cases jX u j with
  | none=>rfl
  | some v=>exact EB l v k
theorem Eu:∀ (l r:List Nat) (u:U),pY u l=none->pY u (l++r)=none
 | [],r,u,z=>by cases z
 | j :: l,r,u,z=>by
  simp only [List.cons_append,pY] at z ⊢
  cases hj:jX u j with
  | none=>rfl
  | some v=>rw [hj] at z;exact Eu l r v z
def Ou:bE:=fun us M Q=>∃ (u v:U) (pl:List Nat),us=[u,gA pl]/\pY u pl=some v/\Q v M
theorem FA (F:cI K "shape_at" "shape_at" uM f fd) (hm:mg "shape_at"=some (.ref f)) (dD:Callee P w K mg base 1 "parts_of" j0 []):Callee P w K mg base 2 "shape_at" Ou []:=by
 refine bQ F hm oU (rQ fun _ _ _ _ _ _ _ _=>rfl) (aE (aR 2 oU.nd (uv 0))
 (aE (eI (eA (uv 1)) (aX (k:=1000) 3 oU.nd)
 (aJ (aR 2 oU.nd (aP (aK dD (aA (uv 2) aB)) (uv 3)))))
 (aJ (bC (uv 2))))) ?_
 rintro us M Q ⟨u,v,pl,rfl,hpl,q⟩;refine ⟨rfl,?_⟩
 simp_all! only [fC,vL]
 refine eP (S:=⟨none,pl.map fun (n:Nat)=>U.int (n:Int)⟩) (M1:=M) (fun R r=>r)
  (fun i τ Mi=>∃ (h:U) (c:Option U),τ=[some u,some (gA pl),some h,c]/\Mi=M/\pY u (pl.take i)=some h) ⟨u,none,rfl,rfl,rfl⟩ nk ?_ ?_
 ·rintro i x τ Mi e ⟨h,c,rfl,rfl,hh⟩
  have e':(pl.map fun (n:Nat)=>U.int (n:Int))[i]?=some x:=e;rw [List.getElem?_map] at e'
  cases hk:pl[i]? with
  | none=>rw [hk] at e';cases e'
  | some k =>
   rw [hk] at e';cases e'
   have hnx:pY u (pl.take (i + 1))=jX h k:=by
    rw [List.take_add_one,hk];show pY u (pl.take i++[k])=_;rw [EB,hh];rfl
   cases hs:jX h k with
   | none =>
    rw [hs] at hnx
    have:=Eu (pl.take (i + 1)) (pl.drop (i + 1)) u hnx
    rw [List.take_append_drop,hpl] at this;cases this
   | some w' =>
    rw [hs] at hnx;obtain ⟨z,r,rfl,hz,hr,hs'⟩:=L1 hs
    simp_all! only [fC,vL]
    refine ⟨z,r,true,rfl,hz,hr,?_⟩
    simp_all! only [fC,vL]
    exact ⟨w',fK hs',w',_,rfl,hnx⟩
 ·rintro τ Mi ⟨h,c,rfl,rfl,hh⟩
  simp only [List.length_map,List.take_length] at hh;rw [hpl] at hh;cases hh
  simp_all! only [fC,vL]
  exact aU q
theorem QB (a:U):jX (.tup [.str (Str.ofString "turn"),a]) 0=some a:=by
 simp only [jX];rw [if_pos BC,if_pos (by simp)];rfl
theorem Pb (o:Op) (a b:U):jX (.tup [.str o.word,a,b]) 0=some a:=by
 simp only [jX];rw [if_pos (AX o),if_pos (by simp)];rfl
theorem OT (o:Op) (a b:U):jX (.tup [.str o.word,a,b]) 1=some b:=by
 simp only [jX];rw [if_pos (AX o),if_pos (by simp)];rfl
theorem yQ:∀ (p:Pt) (pre:List Nat) (e:List Nat × Pt),e∈gH p pre->∃ s,e.1=pre++s/\pY p.toU s=some e.2.toU
 | .turn a,pre,e,h=>by
  simp only [gH] at h
  rcases List.mem_cons.mp h with rfl | h
  ·exact ⟨[],by simp,rfl⟩
  ·obtain ⟨s,h1,h2⟩:=yQ a _ e h
   refine ⟨0 :: s,by rw [h1];simp,?_⟩;simp only [pY,Pt.toU,QB,Option.bind_some,h2]
 | .two o a b,pre,e,h=>by
  simp only [gH] at h
  rcases List.mem_cons.mp h with rfl | h
  ·exact ⟨[],by simp,rfl⟩
  ·rcases List.mem_append.mp h with h | h
   ·obtain ⟨s,h1,h2⟩:=yQ a _ e h
    refine ⟨0 :: s,by rw [h1];simp,?_⟩;simp only [pY,Pt.toU,Pb,Option.bind_some,h2]
   ·obtain ⟨s,h1,h2⟩:=yQ b _ e h
    refine ⟨1 :: s,by rw [h1];simp,?_⟩;simp only [pY,Pt.toU,OT,Option.bind_some,h2]
 | .hole _,pre,e,h=>by cases List.mem_singleton.mp h;exact ⟨[],by simp,rfl⟩
 | .any,pre,e,h=>by cases List.mem_singleton.mp h;exact ⟨[],by simp,rfl⟩
 | .fr _ _,pre,e,h=>by cases List.mem_singleton.mp h;exact ⟨[],by simp,rfl⟩
def AQ (e:List Nat × Pt):Bool:=decide (e.2.holes=0)
def fU:U->Option U
 | .tup [a,.tup (.str z :: r)]=>if (!decide (z=Str.ofString "at")) && !(cJ cY z).isSome then some (.tup [a,.tup (.str z :: r)]) else none
 | _=>none
theorem Vo (e:List Nat × Pt):fU (Ae e)=if e.2.leafy && AQ e then some (Ae e) else none:=by
 obtain ⟨pl,q⟩:=e
 have e1:decide (Str.ofString "at"=Str.ofString "at")=true:=by simp
 cases q with
 | hole c=>simp only [Ae,Pt.toU,fU,e1,Pt.leafy,AQ,Pt.holes];rfl
 | any=>simp only [Ae,Pt.toU,fU,xP,wM,v9,xX,xK,xT,xZ,N7,Pt.leafy,AQ,Pt.holes];rfl
 | fr l h=>simp only [Ae,Pt.toU,fU,xP,wM,v9,xX,xK,xT,xZ,KY,Pt.leafy,AQ,Pt.holes];rfl
 | turn a=>simp only [Ae,Pt.toU,fU,xP,wM,v9,xX,xK,xT,xZ,BC,Pt.leafy];rfl
 | two o a b=>simp only [Ae,Pt.toU,fU,xP,wM,v9,xX,xK,xT,xZ,AX,Pt.leafy];rfl
theorem EC {p:Addr} {o:MO} (h:M p=some o):mup M p o=M:=by
 funext x
 by_cases e:x=p
 ·subst e;rw [aD,h]
 ·rw [aF e]
def cO (M:aG) (t r:Addr) (T R:List U):aG:=mup (mup M t (.lst T)) r (.lst R)
variable {r:Addr} {T R:List U}
theorem yL {t:Addr} (h:t≠r):cO M t r T R t=some (.lst T):=by unfold cO;rw [aF h,aD]
theorem Dz {t:Addr}:cO M t r T R r=some (.lst R):=aD
theorem nU {t:Addr} {T':List U} (h:t≠r):mup (cO M t r T R) t (.lst T')=cO M t r T' R:=by
 funext x
 unfold cO
 by_cases e1:x=t
 ·subst e1;rw [aD,aF h,aD]
 ·rw [aF e1]
  by_cases e2:x=r
  ·subst e2;rw [aD,aD]
  ·rw [aF e2,aF e2,aF e1,aF e1]
theorem NA {t:Addr} {R':List U}:mup (cO M t r T R) r (.lst R')=cO M t r T R':=by unfold cO;rw [aZ]
structure Tk where
 cls:Str
 pt:Pt
 cost:Int
def Tk.good (k:Tk):Prop:=k.pt.ok/\k.pt.dep<=4
structure fT (cs:List Str):Prop where
 ne:cs≠[]
 len:cs.length<=6
 ok:∀ s∈cs,PyData.strOk s=true
def VD (s:Str):List Pt:=[.any,.fr 0 (10 ^ Int.toNat 18),.two .sum (.hole s) (.hole s),.two .less (.hole s) (.hole s),.two .by_ (.hole s) (.hole s),.turn (.hole s)]
def Pt.isHole:Pt->Bool
 | .hole _=>true
 | _=>false
theorem rV (p:Pt):∃ z rr,p.toU=.tup (.str z :: rr)/\decide (z=Str.ofString "at")=p.isHole:=by
 cases p with
 | hole c=>exact ⟨_,_,rfl,by simp [Pt.isHole]⟩
 | any=>exact ⟨_,_,rfl,by simp [Pt.isHole,xP,wM,v9,xX,xK,xT,xZ]⟩
 | fr l h=>exact ⟨_,_,rfl,by simp [Pt.isHole,xP,wM,v9,xX,xK,xT,xZ]⟩
 | turn a=>exact ⟨_,_,rfl,by simp [Pt.isHole,xP,wM,v9,xX,xK,xT,xZ]⟩
 | two o a b=>exact ⟨_,_,rfl,by simp [Pt.isHole,xP,wM,v9,xX,xK,xT,xZ]⟩
def c7 (acc:List Pt) (q:Pt):List Pt:=if q.isHole then acc else if acc.any (fun e=>PyData.eqv (bP e) (bP q)) then acc else acc++[q]
def gJ:Pt->List Pt
 | .turn a=>.turn a :: gJ a
 | .two o a b=>.two o a b :: (gJ a++gJ b)
 | p=>[p]
theorem LJ (acc:List Pt) (q:Pt):(c7 acc q).length<=acc.length + 1:=by
 unfold c7;split
 ·omega
 ·split
  ·omega
  ·simp
theorem zT:∀ (l acc:List Pt),(l.foldl c7 acc).length<=acc.length + l.length
 | [],acc=>by simp
 | q :: l,acc=>by
  have h1:=LJ acc q;have h2:=zT l (c7 acc q);simp only [List.foldl_cons,List.length_cons];omega
def g9 (p:Pt):Prop:=p.ok/\p.dep<=4
variable {acc:List Pt} {q:Pt}
theorem Lg (h:∀ p∈acc,g9 p) (hq:g9 q):∀ p∈c7 acc q,g9 p:=by
 unfold c7;intro p hp;split at hp
 ·exact h p hp
 ·split at hp
  ·exact h p hp
  ·rcases List.mem_append.mp hp with hp | hp
   ·exact h p hp
   ·cases List.mem_singleton.mp hp;exact hq
theorem xH:∀ (l acc:List Pt),(∀ p∈acc,g9 p)->(∀ p∈l,g9 p)->∀ p∈l.foldl c7 acc,g9 p
 | [],acc,h,_=>h
 | q :: l,acc,h,hl=>xH l (c7 acc q) (Lg h (hl q List.mem_cons_self)) fun p hp=>hl p (List.mem_cons_of_mem _ hp)
theorem yZ:∀ p:Pt,(gJ p).length < 2 ^ p.dep
 | .hole _=>by simp [gJ,Pt.dep]
 | .any=>by simp [gJ,Pt.dep]
 | .fr _ _=>by simp [gJ,Pt.dep]
 | .turn a=>by have:=yZ a;simp only [gJ,Pt.dep,Nat.pow_succ,List.length_cons];omega
 | .two _ a b=>by
  have h1:=yZ a;have h2:=yZ b;have h3:2 ^ a.dep<=2 ^ max a.dep b.dep:=Nat.pow_le_pow_right (by decide) (Nat.le_max_left _ _);have h4:2 ^ b.dep<=2 ^ max a.dep b.dep:=Nat.pow_le_pow_right (by decide) (Nat.le_max_right _ _);simp only [gJ,Pt.dep,Nat.pow_succ,List.length_cons,List.length_append];omega
theorem Fp (h:p.dep<=4):(gJ p).length<=16:=by
 have h1:=yZ p;have h2:2 ^ p.dep<=2 ^ 4:=Nat.pow_le_pow_right (by decide) h;have h3:(2:Nat) ^ 4=16:=by decide
 omega
theorem vQ:∀ p:Pt,p.ok->∀ q∈gJ p,q.ok/\q.dep<=p.dep
 | .hole _,h,q,hq=>by cases List.mem_singleton.mp hq;exact ⟨h,Nat.le_refl _⟩
 | .any,h,q,hq=>by cases List.mem_singleton.mp hq;exact ⟨h,Nat.le_refl _⟩
 | .fr _ _,h,q,hq=>by cases List.mem_singleton.mp hq;exact ⟨h,Nat.le_refl _⟩
 | .turn a,h,q,hq=>by
  rcases List.mem_cons.mp hq with rfl | hq
  ·exact ⟨h,Nat.le_refl _⟩
  ·have:=vQ a h q hq;simp only [Pt.dep];exact ⟨this.1,by omega⟩
 | .two _ a b,h,q,hq=>by
  rcases List.mem_cons.mp hq with rfl | hq
  ·exact ⟨h,Nat.le_refl _⟩
  ·rcases List.mem_append.mp hq with hq | hq
   ·have:=vQ a h.1 q hq;simp only [Pt.dep];exact ⟨this.1,by omega⟩
   ·have:=vQ b h.2 q hq;simp only [Pt.dep];exact ⟨this.1,by omega⟩
theorem G2 (l:List Pt):cN (l.map Pt.toU)=some (l.map bP):=by
 induction l with
 | nil=>simp [cN]
 | cons p l ih=>simp [cN,zE,ih]
theorem K6 (l:List Pt) (h:∀ p∈l,g9 p):PyData.canLayAll0 (l.map bP)=true:=by
 induction l with
 | nil=>simp [PyData.canLayAll0]
 | cons p l ih=>simp only [List.map_cons,PyData.canLayAll0,uL p (h p List.mem_cons_self).1,ih fun x hx=>h x (List.mem_cons_of_mem _ hx)];rfl
theorem tI:∀ p:Pt,(bP p).depth<=2 * p.dep + 2
 | .hole _=>by simp [bP,PyData.depth,PyData.depthAll]
 | .any=>by simp [bP,PyData.depth,PyData.depthAll]
 | .fr _ _=>by simp [bP,PyData.depth,PyData.depthAll]
 | .turn a=>by have:=tI a;simp [bP,PyData.depth,PyData.depthAll,Pt.dep];omega
 | .two _ a b=>by have h1:=tI a;have h2:=tI b;simp [bP,PyData.depth,PyData.depthAll,Pt.dep];omega
variable {cs:List Str}
theorem Qm {p:Addr} {Q:UK} (hM:M p=some (.lst (cs.map U.str++acc.map Pt.toU))) (hcs:∀ s∈cs,PyData.strOk s=true) (ha:∀ p∈acc,g9 p) (hq:g9 q) (h:Q (.bl (!acc.any fun e=>PyData.eqv (bP e) (bP q))) M):Ir true q.toU (.ref p) M Q:=by
 have hs:∀ l:List Str,(∀ s∈l,PyData.strOk s=true)->cN (l.map U.str++acc.map Pt.toU)=some (l.map PyData.str++acc.map bP)/\PyData.canLayAll0 (l.map PyData.str++acc.map bP)=true/\(l.map PyData.str++acc.map bP).any (fun e=>PyData.eqv e (bP q))=acc.any fun e=>PyData.eqv (bP e) (bP q):=by
  intro l
  induction l with
  | nil =>
   intro _;refine ⟨by simpa using G2 acc,by simpa using K6 acc ha,?_⟩;simp only [List.map_nil,List.nil_append,List.any_map];rfl
  | cons a l ih =>
   intro hl;obtain ⟨i1,i2,i3⟩:=ih fun s hs=>hl s (List.mem_cons_of_mem _ hs);refine ⟨?_,?_,?_⟩
   ·simp only [List.map_cons,List.cons_append,cN,toD,i1]
   ·simp only [List.map_cons,List.cons_append,PyData.canLayAll0,PyData.canLay0,hl a List.mem_cons_self,i2,Bool.and_self]
   ·have:PyData.eqv (.str a) (bP q)=false:=by cases q <;> rfl
    simp only [List.map_cons,List.cons_append,List.any_cons,this,Bool.false_or,i3]
 obtain ⟨h1,h2,h3⟩:=hs cs hcs;obtain ⟨z,rr,e,_⟩:=rV q;have ht:sX M q.toU=some (bP q):=by rw [<- zE q,e];rfl
 have hd:=tI q;refine ⟨_,_,_,by simp only [items,hM],h1,ht,h2,uL q hq.1,by have:=hq.2;omega,?_⟩;rw [h3];exact h
theorem J1 (h:q.isHole=true):c7 acc q=acc:=by unfold c7;rw [if_pos h]
theorem GP (h:q.isHole=false) (k:(acc.any fun e=>PyData.eqv (bP e) (bP q))=true):c7 acc q=acc:=by unfold c7;rw [if_neg (by rw [h];simp),if_pos k]
theorem EY (h:q.isHole=false) (k:(acc.any fun e=>PyData.eqv (bP e) (bP q))=false):c7 acc q=acc++[q]:=by unfold c7;rw [if_neg (by rw [h];simp),if_neg (by rw [k];simp)]
structure Tl where
 name:Str
 k:Tk
def Tl.toU (t:Tl):U:=.tup [.str t.name,.str t.k.cls,t.k.pt.toU,.int t.k.cost]
theorem Oy {t:Tl}:view M t.toU=.tup [.str t.name,.str t.k.cls,t.k.pt.toU,.int t.k.cost]:=rfl
def dP (cs:List Str) (tls:List Tl):U:=.tup [aW cs,.tup (tls.map Tl.toU)]
variable {tls:List Tl}
theorem La:view M (dP cs tls)=.tup [aW cs,.tup (tls.map Tl.toU)]:=rfl
def eF (t:Tl):List Pt:=(gJ t.k.pt).tail
def aN (tls:List Tl):List Pt:=(tls.flatMap eF).foldl c7 []
structure Tab (cs:List Str) (tls:List Tl):Prop where
 cls:fT cs
 good:∀ t∈tls,t.k.good
 len:tls.length<=39
theorem xF (h:Tab cs tls):∀ t∈tls,∀ q∈gJ t.k.pt,g9 q:=fun t ht q hq=>by
 have:=vQ t.k.pt (h.good t ht).1 q hq
 have h2:=(h.good t ht).2;exact ⟨this.1,by omega⟩
theorem Mn (h:Tab cs tls) {t:Tl} (ht:t∈tls):(eF t).length<=16:=by
 have:=Fp (h.good t ht).2
 rw [eF,List.length_tail];omega
theorem EF {cs:List Str}:∀ {tls:List Tl},(∀ t∈tls,t.k.good)->(tls.flatMap eF).length<=16 * tls.length
 | [],_=>by simp
 | t :: tls,h=>by
  have h1:=EF (cs:=cs) (tls:=tls) fun x hx=>h x (List.mem_cons_of_mem _ hx);have h2:=Fp (h t List.mem_cons_self).2;have h3:(eF t).length<=16:=by rw [eF,List.length_tail];omega
  rw [List.flatMap_cons,List.length_append,List.length_cons];omega
theorem Lo (h:Tab cs tls) (i:Nat):∀ q∈(tls.take i).flatMap eF,g9 q:=fun q hq=>by
 obtain ⟨t,ht,hq⟩:=List.mem_flatMap.mp hq;exact xF h t (List.mem_of_mem_take ht) q (List.mem_of_mem_tail hq)
theorem DK (h:Tab cs tls) (i:Nat):(∀ q∈((tls.take i).flatMap eF).foldl c7 [],g9 q)/\(((tls.take i).flatMap eF).foldl c7 []).length<=640:=by
 refine ⟨xH _ _ (fun p hp=>by cases hp) (Lo h i),?_⟩;have h1:=zT ((tls.take i).flatMap eF) [];have h2:=EF (cs:=cs) (tls:=tls.take i) fun t ht=>h.good t (List.mem_of_mem_take ht);have h3:(tls.take i).length<=39:=by have:=h.len;rw [List.length_take];omega
 simp only [List.length_nil] at h1;omega
theorem LK {t:Tl} (e:tls[i]?=some t):((tls.take (i + 1)).flatMap eF).foldl c7 []=(eF t).foldl c7 (((tls.take i).flatMap eF).foldl c7 []):=by
 rw [List.take_add_one,e]
 simp [List.flatMap_append,List.foldl_append]
theorem yN:∀ (p:Pt) (pl:List Nat),(gH p pl).map (·.2)=gJ p
 | .turn a,pl=>by simp only [gH,gJ,List.map_cons,yN a]
 | .two _ a b,pl=>by simp only [gH,gJ,List.map_cons,List.map_append,yN a,yN b]
 | .hole _,pl=>rfl
 | .any,pl=>rfl
 | .fr _ _,pl=>rfl
def Ky:bE:=fun us M Q=>∃ (cs:List Str) (tls:List Tl),us=[dP cs tls]/\Tab cs tls/\∀ p,M p=none->Q (.ref p) (mup M p (.lst (cs.map U.str++(aN tls).map Pt.toU)))
theorem C8 (F:cI K "columns_of" "columns_of" rF f fd) (hm:mg "columns_of"=some (.ref f)) (nN:mg "list"=none) (sY:Callee P w K mg base 7 "places_of" (rN 6) []) (Hu:Callee P w K mg base 2 "shape_at" Ou []):Callee P w K mg base 8 "columns_of" Ky []:=by
 refine bQ F hm kG (CA fun _ _ _ _ _ _ _=>rfl) (aE (aR 1 kG.nd (wW (EO (own:=true)) nN (aA (aP (uv 0) aO) aB)))
 (aE (eI (eA (aP (uv 0) aO)) (aX (k:=1000) 2 kG.nd)
 (aE (qL 3 kG.nd false ["place","tile"] 1 [2] (eA (t9 (own:=false) (aK sY (aA (aP (uv 2) aO) aB)) (qM aO) qP)) (aX (k:=1) 0 (by dsimp only [bZ];decide +kernel)) lH (aK Hu (aA (aP (uv 1) aO) (aA (uv 0) aB))))
 (aJ (eI (eA (uv 3)) (aX (k:=1000) 4 kG.nd)
 (aJ (cF (q8.pt (AS (cB yY (aP (uv 4) aO) gL) (yI (cB Mj (uv 4) (uv 1)))))
 (aJ (dM (jW (uv 1) (aA (uv 4) aB))))
 bO))))))
 (aJ (bC (uv 1))))) ?_
 rintro us M Q ⟨cs,tls,rfl,hT,q⟩;refine ⟨rfl,?_⟩;refine aH fun V hV=>?_;simp! only [aY,hName,La,aW,lR,dF,iQ,fC,eS,mY,fE,gQ,lD];intro p hp;subst hV;refine aH fun V hV=>?_
 refine eP (S:=⟨none,tls.map Tl.toU⟩) (M1:=mup M p (.lst (cs.map U.str))) (fun R r=>by simp! only [La,lR,dF,iQ,fC,eS,mY,fE,gQ,lD];exact r)
  (fun i τ Mi=>∃ z2 z3 z4:Option U,τ=[some (dP cs tls),some (.ref p),z2,z3,z4]/\Mi=mup M p (.lst (cs.map U.str++(((tls.take i).flatMap eF).foldl c7 []).map Pt.toU))) ⟨none,none,none,rfl,by simp⟩ nk ?_ ?_
 ·rintro i x τ Mi e ⟨z2,z3,z4,rfl,rfl⟩
  have e':(tls.map Tl.toU)[i]?=some x:=e;rw [List.getElem?_map] at e'
  cases ht:tls[i]? with
  | none=>rw [ht] at e';cases e'
  | some t =>
   rw [ht] at e';cases e';have htm:=List.mem_of_getElem? ht;obtain ⟨hg1,hg2⟩:=hT.good t htm;obtain ⟨ha1,ha2⟩:=DK hT i;have htl:=Mn hT htm;rw [LK ht];generalize ((tls.take i).flatMap eF).foldl c7 []=acc at *;simp! only [hName,lR,dF,iQ,fC,eS,mY,fE,gQ,lD];refine aH fun V1 hV1=>?_;simp! only [aY,hName,lR,dF,iQ,fC,eS,mY,fE,gQ,lD];have hsn:=yN t.k.pt [];have hpl:=oR t.k.pt [];have hpe:=places_eq t.k.pt
   have hlen:(c6 0 t.k.pt.parts).length=(eF t).length:=by
    have h1:(gH t.k.pt []).length=(gJ t.k.pt).length:=by rw [<- hsn,List.length_map]
    have h2:(gH t.k.pt []).length=t.k.pt.places.length:=by rw [<- List.length_map (f:=(·.1)),hpl,List.length_map]
    rw [hpe,List.length_cons] at h2;rw [eF,List.length_tail];omega
   refine jY (S:=⟨none,(c6 0 t.k.pt.parts).map gA⟩) (M1:=mup M p (.lst (cs.map U.str++acc.map Pt.toU))) ((eF t).map Pt.toU) (fun R r=>?_) (by show _=((c6 0 t.k.pt.parts).map gA).length;rw [List.length_map,List.length_map,hlen]) (small (by show ((c6 0 t.k.pt.parts).map gA).length<=_;rw [List.length_map,hlen];omega)) (fun a e=>by cases e) ?_ ?_
   ·simp! only [Oy,lR,dF,iQ,fC,eS,mY,fE,gQ,lD]
    refine ⟨t.k.pt,rfl,by omega,by decide,?_⟩;rw [hpe,List.map_cons];simp! only [Q3,lR,dF,iQ,fC,eS,mY,fE,gQ,lD];exact r
   ·intro j x y hx hy M' _ R r'
    have hx':((c6 0 t.k.pt.parts).map gA)[j]?=some x:=hx;rw [List.getElem?_map] at hx';rw [List.getElem?_map] at hy
    cases hj:(c6 0 t.k.pt.parts)[j]? with
    | none=>rw [hj] at hx';cases hx'
    | some pl =>
     cases hy2:(eF t)[j]? with
     | none=>rw [hy2] at hy;cases hy
     | some qq =>
      rw [hj] at hx';rw [hy2] at hy;cases hx';cases hy;have hp1:t.k.pt.places[j + 1]?=some pl:=by rw [hpe,List.getElem?_cons_succ];exact hj
      have hp2:(gJ t.k.pt)[j + 1]?=some qq:=by rw [<- List.getElem?_tail];exact hy2
      have hsb:∃ e,(gH t.k.pt [])[j + 1]?=some e/\e.1=pl/\e.2=qq:=by
       rw [<- hsn,List.getElem?_map] at hp2
       cases hs:(gH t.k.pt [])[j + 1]? with
       | none=>rw [hs] at hp2;cases hp2
       | some e =>
        rw [hs] at hp2;have h3:((gH t.k.pt []).map (·.1))[j + 1]?=some e.1:=by rw [List.getElem?_map,hs];rfl
        rw [hpl,List.getElem?_map,hp1] at h3;exact ⟨e,rfl,by simpa using (Option.some.inj h3).symm,Option.some.inj hp2⟩
      obtain ⟨e,he,rfl,rfl⟩:=hsb;obtain ⟨sx,e1,e2⟩:=yQ t.k.pt [] e (List.mem_of_getElem? he);rw [List.nil_append] at e1
      simp_all! only [Oy,fC,eS,mY,fE,gQ,Ir,lD]
      exact ⟨_,_,e.1,rfl,by rw [e1];exact e2,r'⟩
   ·simp only [i7]
    subst hV1;have htf:∀ q∈eF t,g9 q:=fun q hq=>xF hT t htm q (List.mem_of_mem_tail hq);generalize hq0:eF t=ql at *
    refine eP (S:=⟨none,ql.map Pt.toU⟩) (M1:=mup M p (.lst (cs.map U.str++acc.map Pt.toU))) (fun R r=>by simp! only [lR,dF,iQ,fC,eS,mY,fE,gQ,lD];exact r)
     (fun j τ Mi=>∃ z4:Option U,τ=[some (dP cs tls),some (.ref p),some t.toU,some (.lst (ql.map Pt.toU)),z4]/\Mi=mup M p (.lst (cs.map U.str++((ql.take j).foldl c7 acc).map Pt.toU))) ⟨_,rfl,rfl⟩ nk ?_ ?_
    ·rintro j x τ Mi ej ⟨z4,rfl,rfl⟩
     have ej':(ql.map Pt.toU)[j]?=some x:=ej;rw [List.getElem?_map] at ej'
     cases hj:ql[j]? with
     | none=>rw [hj] at ej';cases ej'
     | some qq =>
      rw [hj] at ej';cases ej'
      have hnx:(ql.take (j + 1)).foldl c7 acc=c7 ((ql.take j).foldl c7 acc) qq:=by
       rw [List.take_add_one,hj];simp [List.foldl_append]
      have hqf:=htf qq (List.mem_of_getElem? hj);have hac:=xH (ql.take j) acc ha1 fun q hq=>htf q (List.mem_of_mem_take hq);have hal:=zT (ql.take j) acc;have htk:(ql.take j).length<=ql.length:=by rw [List.length_take];omega
      rw [hnx];generalize (ql.take j).foldl c7 acc=ac at *;obtain ⟨z,rr,ez,hz⟩:=rV qq;simp! only [hName,lR,dF,iQ,fC,eS,mY,fE,gQ,lD];refine bX fun A B hA hB=>?_
      have hb:c7 ac qq=ac->B (mup M p (.lst (cs.map U.str++ac.map Pt.toU))):=fun hh=>by
       subst hB;simp only [cE];rw [hh];exact ⟨_,rfl,rfl⟩
      simp! only [lR,dF,iQ,fC,eS,mY,fE,gQ,lD];rw [ez];simp! only [hz,lR,dF,iQ,fC,eS,mY,fE,gQ,lD]
      cases hh:qq.isHole with
      | true=>exact hb (J1 hh)
      | false =>
       simp only [Bool.not_false,if_true];rw [<- ez];refine Qm (cs:=cs) (acc:=ac) (q:=qq) aD hT.cls.ok hac hqf ?_
       cases hk:ac.any (fun e=>PyData.eqv (bP e) (bP qq)) with
       | true=>exact hb (GP hh hk)
       | false =>
        simp only [Bool.not_false,if_true];subst hA;simp! only [eK,lR,dF,iQ,fC,eS,mY,fE,gQ,lD];have hc6:=hT.cls.len;refine ⟨FZ,big (by rw [List.length_append,List.length_map,List.length_map];omega),?_⟩;rw [EY hh hk];exact ⟨_,rfl,by simp⟩
    ·rintro τ Mi ⟨z4,rfl,rfl⟩
     have hl3:ql.take (Src.mk none (ql.map Pt.toU)).xs.length=ql:=by
      show ql.take (ql.map Pt.toU).length=ql;rw [List.length_map];exact List.take_length
     rw [hl3];exact ⟨_,_,_,rfl,rfl⟩
 ·rintro τ Mi ⟨z2,z3,z4,rfl,rfl⟩
  have hl2:tls.take (Src.mk none (tls.map Tl.toU)).xs.length=tls:=by
   show tls.take (tls.map Tl.toU).length=tls;rw [List.length_map];exact List.take_length
  rw [hl2];subst hV;simp! only [bU,lR,dF,iQ,fC,eS,mY,fE,gQ,lD];exact aU (q p hp)
end
def isLetter (c:Nat):Bool:=decide (c < 1000)
def isName:U->Bool
 | .str z=>decide (1<=z.length) && decide (z.length<=8) && z.cps.toList.all isLetter
 | _=>false
theorem O9 {x:Str} (h:isName (.str x)=true):PyData.strOk x=true:=by
 simp only [isName,Bool.and_eq_true,decide_eq_true_eq,List.all_eq_true,isLetter] at h;unfold PyData.strOk;rw [Array.all_eq_true_iff_forall_mem];intro c hc
 have:=h.2 c (by simpa using hc)
 exact decide_eq_true (by omega)
section
variable {P:Program} {w:World} {K:PySem.W.Frag} {mg:Str->Option Value} {base:Heap} {f d d2 fl:Addr} {fd:FuncData}
def bH (d x:Int):List U:=[.int d,.int x]
def Jp:bE:=fun us M Q=>∃ (ns:List Int) (k:Nat),us=[.lst (ns.map U.int),.int (k:Int)]/\k<=100/\∀ (r:Addr) (d x:Int),M r=none->0<=d->0<=x->x<=2147484647->Q (.ref r) (mup M r (.lst (bH d x)))
def nA:bE:=fun us M Q=>∃ (f:Addr) (d x m:Int),us=[.ref f,.int m]/\M f=some (.lst (bH d x))/\0<=d/\0<=x/\x<=2147484647/\0 < m/\m < 2 ^ 64/\∀ n d' x':Int,0<=n->n < m->0<=d'->0<=x'->x'<=2147484647->Q (.int n) (mup M f (.lst (bH d' x')))
theorem Qf (F:cI K "_law_take" "_law_take" u6 f fd) (hm:mg "_law_take"=some (.ref f)):Callee P w K mg base 1 "_law_take" nA []:=by
 refine bQ F hm zL (rQ fun _ _ _ _ _ _ _ _=>rfl) (aE (cF (cB Mu (aP (uv 0) aO) aO)
 (aE (aR 2 zL.nd (uJ (aP (uv 0) aO) (uv 1)))
 (aE (tM (Gs (aP (uv 0) aO) (uv 1)) (uv 0) aO)
 (aJ (bC (uv 2)))))
 bO)
 (aE (tM (uJ (cQ (own:=false) (gX (own:=false) (aP (uv 0) aO) aO) aO) aO) (uv 0) aO)
 (aJ (bC (uJ (Gs (aP (uv 0) aO) aO) (uv 1)))))) ?_
 rintro us M Q ⟨r,d,x,m,rfl,hM,hd,hx,hx2,hm0,hm1,q⟩;refine ⟨rfl,?_⟩;have vr:view M (.ref r)=.lst (bH d x):=bJ hM;refine aH fun V hV=>?_;refine bX fun A B hA hB=>?_;dsimp! only [vr,bH];refine kP (fun h=>?_) (fun h=>?_)
 ·subst hA
  refine aH fun V2 hV2=>?_;dsimp! only [aY,hName,vr,bH];refine ⟨hm0,?_⟩;subst hV2;refine aH fun V2 hV2=>?_;dsimp! only [oV,vr,bH];rw [hM];dsimp! only [bH];refine ⟨⟨hm0,hm1⟩,0,rfl,?_⟩;subst hV2;dsimp! only [bU];exact aU (q (d % m) (d / m) x (Int.emod_nonneg _ (by omega)) (Int.emod_lt_of_pos _ hm0) (Int.ediv_nonneg hd (by omega)) hx hx2)
 ·subst hB
  simp only [cE];subst hV;refine aH fun V2 hV2=>?_;dsimp! only [oV,vr,bH];rw [hM];refine ⟨mulR (by decide) (by decide),by decide,1,rfl,?_⟩;have hxx:0<=(x * 69621 + 12345) % 2147483647/\(x * 69621 + 12345) % 2147483647<=2147484647:=by omega
  generalize (x * 69621 + 12345) % 2147483647=y at hxx;have hy:mup M r (.lst ([U.int d,U.int x].set 1 (.int y)))=mup M r (.lst (bH d y)):=rfl;show V2 _ (mup M r (.lst ([U.int d,U.int x].set 1 (.int y))));rw [hy];subst hV2;have v2:view (mup M r (.lst (bH d y))) (.ref r)=.lst (bH d y):=bJ aD;dsimp! only [bU,v2,bH];exact ⟨⟨by decide,by decide⟩,hm0,aU (q (y / 8191 % m) d y (Int.emod_nonneg _ (by omega)) (Int.emod_lt_of_pos _ hm0) hd hxx.1 hxx.2)⟩
theorem QR (F:cI K "_law_feed" "_law_feed" uX f fd) (hm:mg "_law_feed"=some (.ref f)) (bA:mg "len"=none):Callee P w K mg base 1 "_law_feed" Jp []:=by
 refine bQ F hm lY (rQ fun _ _ _ _ _ _ _ _=>rfl) (aE (aR 2 lY.nd aO)
 (aE (cF (cB Ez (uv 1) (fB eC bA (aA (uv 0) aB)))
 (aJ (aR 2 lY.nd (aP (uv 0) (uv 1))))
 bO)
 (aE (aR 3 lY.nd aO)
 (aE (cF (cB SN (uv 2) (E6 aO aO))
 (aJ (aR 3 lY.nd (kE (uv 2) (E6 aO aO))))
 bO)
 (aJ (bC (cG (own:=true) (aA (uv 3) (aA (cQ (own:=false) (cQ (own:=false) (uJ (gX (own:=false) (uJ (uv 2) aO) aO) aO) (gX (own:=false) aO (uv 1))) aO) aB))))))))) ?_
 rintro us M Q ⟨ns,k,rfl,hk,q⟩;refine ⟨rfl,?_⟩;refine aH fun V hV=>?_;dsimp! only [aY,hName];subst hV;refine aH fun V hV=>?_
 have rest:∀ c:Int,V [some (.lst (ns.map U.int)),some (.int (k:Int)),some (.int c),none] M:=by
  intro c;subst hV;refine aH fun V hV=>?_;dsimp! only [aY,hName];subst hV;refine aH fun V hV=>?_
  have last:∀ d:Int,0<=d->V [some (.lst (ns.map U.int)),some (.int (k:Int)),some (.int c),some (.int d)] M:=by
   intro d hd;subst hV;dsimp! only [bU];refine ⟨by decide,mulR (by decide) (by decide),by decide,mulL (by decide) (by decide),fun r hr=>?_⟩;have h1:=Int.emod_nonneg (c % 2147483647 * 48271) (show (2147483647:Int)≠0 by decide);have h2:=Int.emod_lt_of_pos (c % 2147483647 * 48271) (show (0:Int) < 2147483647 by decide);exact aU (q r d _ hr hd (by omega) (by omega))
  refine bX fun A B hA hB=>?_;dsimp! only [true_and];refine ⟨⟨by decide,by decide⟩,kP (fun h=>?_) (fun h=>?_)⟩
  ·subst hA
   dsimp! only [aY,hName];have h':=of_decide_eq_true h;exact ⟨⟨by decide,by decide,by decide⟩,last _ (Int.sub_nonneg.mpr h')⟩
  ·subst hB
   simp only [cE];exact last 0 (by decide)
 refine bX fun A B hA hB=>?_;dsimp! only [List.length_map];refine kP (fun h=>?_) (fun h=>?_)
 ·subst hA
  have hlt:k < ns.length:=by have:=of_decide_eq_true h;omega
  have hat:dH (ns.map U.int) (k:Int)=some (.int ns[k]):=fK (by rw [List.getElem?_map,List.getElem?_eq_getElem hlt];rfl);dsimp! only [aY,hName,hat];exact rest _
 ·subst hB
  simp only [cE];exact rest 0
def Ak:bE:=fun us M Q=>∃ (f:Addr) (d x:Int) (m:Nat),us=[.ref f,.int (m:Int)]/\M f=some (.lst (bH d x))/\0<=d/\0<=x/\x<=2147484647/\m<=30/\∀ (names:List Str) (d' x':Int),names.length=m->(∀ s∈names,isName (.str s)=true)->(m<=3->names.Nodup)->0<=d'->0<=x'->x'<=2147484647->Q (.lst (names.map U.str)) (mup M f (.lst (bH d' x')))
def lV:Str:=Str.ofString "abcdefghijklmnopqrstuvwxyz"
variable {n:Int}
theorem JD (h0:0<=n) (h1:n < 26):∃ c,dH lV.cps.toList n=some c/\isLetter c=true:=by
 have hl:lV.cps.toList.length=26:=by decide +kernel
 have hlt:n.toNat < lV.cps.toList.length:=by omega
 refine ⟨lV.cps.toList[n.toNat],?_,?_⟩
 ·have:=fK (xs:=lV.cps.toList) (j:=n.toNat) (List.getElem?_eq_getElem hlt)
  rw [Int.toNat_of_nonneg h0] at this;exact this
 ·have hall:lV.cps.toList.all isLetter=true:=by decide +kernel
  exact List.all_eq_true.mp hall _ (List.getElem_mem hlt)
theorem E3 (c:Nat):∀ (k:Nat) (acc:Array Nat),((List.replicate k (#[c]:Array Nat)).foldl (·++·) acc).toList=acc.toList++List.replicate k c
 | 0,acc=>by simp
 | k + 1,acc=>by
  rw [List.replicate_succ,List.foldl_cons,E3 c k,List.replicate_succ]
  simp
theorem yA (c:Nat) (n:Int):(kN ⟨#[c]⟩ n).cps.toList=List.replicate n.toNat c:=by
 unfold kN
 by_cases h:n < 1
 ·rw [if_pos h,show n.toNat=0 by omega];rfl
 ·rw [if_neg h]
  by_cases h1:n=1
  ·subst h1;rfl
  ·rw [if_neg (by
    have:((n == 1)=false):=by simp [h1]
    rw [this]
    exact Bool.false_ne_true)]
   have:=E3 c n.toNat #[]
   simpa using this
theorem PZ {z:Str} {l:List Nat} (e:z.cps.toList=l) (h:∀ c∈l,isLetter c=true) (h1:1<=l.length) (h8:l.length<=8):isName (.str z)=true:=by
 have hl:z.length=l.length:=by rw [<- e];rfl
 simp only [isName,Bool.and_eq_true,decide_eq_true_eq];exact ⟨⟨by omega,by omega⟩,by rw [e];exact List.all_eq_true.mpr h⟩
theorem Qa {x y:Int} {c:Nat} (hx:0<=x/\x < 26) (hy:0<=y/\y < 26) (h:dH lV.cps.toList x=some c) (h':dH lV.cps.toList y=some c):x=y:=by
 have hl:lV.cps.toList.length=26:=by decide +kernel
 have all:∀ i j:Fin 26,lV.cps.toList[i.val]?=lV.cps.toList[j.val]?->i=j:=by decide +kernel
 obtain ⟨i,rfl⟩:∃ i:Nat,x=(i:Int):=⟨x.toNat,by omega⟩;obtain ⟨j,rfl⟩:∃ j:Nat,y=(j:Int):=⟨y.toNat,by omega⟩
 have hat:∀ k:Nat,k < 26->dH lV.cps.toList (k:Int)=lV.cps.toList[k]?:=fun k hk=>by
  unfold dH;rw [hl];have e:rH 26 (k:Int)=some k:=by unfold rH;rw [if_pos (by omega),if_pos (by omega)];simp
  rw [e];rfl
 rw [hat i (by omega)] at h;rw [hat j (by omega)] at h'
 have:=all ⟨i,by omega⟩ ⟨j,by omega⟩ (h.trans h'.symm)
 have:=congrArg Fin.val this
 simp only at this;omega
theorem step_at (h0:0<=n) (h1:n < 6):∃ k:Int,dH [U.int 1,U.int 3,U.int 5,U.int 7,U.int 9,U.int 11] n=some (.int k)/\1<=k/\k<=11:=by
 have e:n=0\/n=1\/n=2\/n=3\/n=4\/n=5:=by omega
 rcases e with rfl | rfl | rfl | rfl | rfl | rfl <;> exact ⟨_,rfl,by omega,by omega⟩
theorem KN (F:cI K "_law_unlike" "_law_unlike" rC f fd) (hm:mg "_law_unlike"=some (.ref f)) (gE:mg "range"=none) (aS:Callee P w K mg base 1 "_law_take" nA []):Callee P w K mg base 2 "_law_unlike" Ak []:=by
 refine bQ F hm eZ (rQ fun _ _ _ _ _ _ _ _=>rfl) (aE (aR 2 eZ.nd gL)
 (aE (aR 3 eZ.nd (aP (uv 2) (aK aS (aA (uv 0) (aA aO aB)))))
 (aE (aR 4 eZ.nd (aK aS (aA (uv 0) (aA aO aB))))
 (aE (aR 5 eZ.nd (aP (cG (own:=false) (aA aO (aA aO (aA aO (aA aO (aA aO (aA aO aB))))))) (aK aS (aA (uv 0) (aA aO aB)))))
 (aE (aR 6 eZ.nd (cQ (own:=false) aO (aK aS (aA (uv 0) (aA aO aB)))))
 (aE (aR 7 eZ.nd (aK aS (aA (uv 0) (aA (uv 6) aB))))
 (aE (aR 8 eZ.nd (gX (own:=false) (uv 3) (kE (kE (uv 6) aO) (uv 7))))
 (aJ (bC (nY false ["k","back","filler","place","letters","first","step"] 1 [8,3,7,2,4,5] (tO gE (aA (uv 1) aB)) (aX (k:=1) 0 (by dsimp only [bZ];decide +kernel)) lH (cQ (own:=false) (cQ (own:=false) (gX (own:=false) (uv 2) (uv 3)) (aP (uv 4) (uJ (cQ (own:=false) (uv 5) (gX (own:=false) (uv 6) (uv 0))) aO))) (uv 1)))))))))))) ?_
 rintro us M Q ⟨r,d,x,m,rfl,hM,hd,hx,hx2,hm3,q⟩;refine ⟨rfl,?_⟩;refine aH fun V hV=>?_;dsimp! only [aY,hName];subst hV;refine aH fun V hV=>?_;dsimp! only [aY,hName];refine ⟨r,d,x,26,rfl,hM,hd,hx,hx2,by decide,by decide,fun n1 d1 x1 a1 b1 c1 c2 c3=>?_⟩;obtain ⟨cf,hcf,hlf⟩:=JD a1 b1;dsimp! only [true_and]
 have habc:(Str.ofString "abcdefghijklmnopqrstuvwxyz").length<=sizeLine:=by decide +kernel
 refine ⟨habc,cf,hcf,?_⟩;subst hV;refine aH fun V hV=>?_;dsimp! only [aY,hName];refine ⟨r,d1,x1,26,rfl,aD,c1,c2,c3,by decide,by decide,fun n2 d2 x2 a2 b2 f1 f2 f3=>?_⟩;rw [aZ];subst hV;refine aH fun V hV=>?_;dsimp! only [aY,hName];refine ⟨r,d2,x2,6,rfl,aD,f1,f2,f3,by decide,by decide,fun n3 d3 x3 a3 b3 g1 g2 g3=>?_⟩;rw [aZ];obtain ⟨sp,hsp,hs0,hs1⟩:=step_at a3 b3;dsimp! only [hsp];subst hV;refine aH fun V hV=>?_;dsimp! only [aY,hName];refine ⟨r,d3,x3,8,rfl,aD,g1,g2,g3,by decide,by decide,fun n4 d4 x4 a4 b4 k1 k2 k3=>?_⟩;rw [aZ];dsimp! only [true_and];subst hV;refine aH fun V hV=>?_;dsimp! only [aY,hName];refine ⟨r,d4,x4,1 + n4,rfl,aD,k1,k2,k3,by omega,by omega,fun n5 d5 x5 a5 b5 l1 l2 l3=>?_⟩;rw [aZ];subst hV;refine aH fun V hV=>?_;dsimp! only [aY,hName];have h1c:(⟨#[cf]⟩:Str).length=1:=rfl;refine ⟨by omega,by omega,by rw [h1c];decide,by rw [h1c];omega,?_⟩;subst hV;dsimp! only [bU];generalize hMM:mup M r (.lst (bH d5 x5))=MM
 let ck:Nat->Nat:=fun k=>(dH lV.cps.toList ((n2 + sp * (k:Int)) % 26)).getD 0
 have hck:∀ k:Nat,dH lV.cps.toList ((n2 + sp * (k:Int)) % 26)=some (ck k)/\isLetter (ck k)=true:=fun k=>by
  obtain ⟨c,h1,h2⟩:=JD (Int.emod_nonneg (n2 + sp * (k:Int)) (show (26:Int)≠0 by decide)) (Int.emod_lt_of_pos _ (by decide));have e:ck k=c:=by show (dH lV.cps.toList ((n2 + sp * (k:Int)) % 26)).getD 0=c;rw [h1];rfl
  rw [e];exact ⟨h1,h2⟩
 let nk:Nat->Str:=fun k=>kN ⟨#[cf]⟩ n5++⟨#[ck k]⟩++kN ⟨#[cf]⟩ (1 + n4 - 1 - n5)
 have hnl:∀ k,(nk k).cps.toList=List.replicate n5.toNat cf++[ck k]++List.replicate (1 + n4 - 1 - n5).toNat cf:=fun k=>by
  show (kN ⟨#[cf]⟩ n5++⟨#[ck k]⟩++kN ⟨#[cf]⟩ (1 + n4 - 1 - n5)).cps.toList=_;rw [vN,vN,yA,yA]
 have hnn:∀ k,isName (.str (nk k))=true:=fun k=>by
  refine PZ (hnl k) (fun c hc=>?_) (by simp;omega) (by simp;omega);simp only [List.mem_append,List.mem_replicate,List.mem_singleton] at hc
  rcases hc with (⟨_,rfl⟩ | rfl) | ⟨_,rfl⟩
  ·exact hlf
  ·exact (hck k).2
  ·exact hlf
 have hrl:∀ n:Int,n<=8->(kN ⟨#[cf]⟩ n).length<=8:=fun n h=>by
  have e:(kN ⟨#[cf]⟩ n).length=(kN ⟨#[cf]⟩ n).cps.toList.length:=rfl;rw [e,yA,List.length_replicate];omega
 have hr1:=hrl n5 (by omega);have hr2:=hrl (1 + n4 - 1 - n5) (by omega);refine jY (S:=⟨none,dO 0 m⟩) (M1:=MM) ((List.range m).map fun k=>.str (nk k)) (fun R r=>by dsimp! only [true_and];exact ⟨by omega,by omega,by simpa using r⟩) (by rw [List.length_map,List.length_range];show _=(dO 0 m).length;rw [lL]) (small (by show (dO 0 m).length<=_;rw [lL];omega)) (fun a e=>by cases e) ?_ ?_
 ·intro j x y hx hy M' hS R r'
  obtain ⟨rfl,hj⟩:=m6 hx;rw [List.getElem?_map,List.getElem?_range hj] at hy;cases hy;dsimp! only [hName];have e0:(0:Int) + (j:Int)=(j:Int):=by omega
  rw [e0]
  have hl2:(kN ⟨#[cf]⟩ n5++⟨#[ck j]⟩:Str).length<=100:=by
   have e:(kN ⟨#[cf]⟩ n5++⟨#[ck j]⟩:Str).length=(kN ⟨#[cf]⟩ n5++⟨#[ck j]⟩:Str).cps.toList.length:=rfl;rw [e,vN,yA];simp;omega
  have h1j:(⟨#[ck j]⟩:Str).length=1:=rfl;refine ⟨by omega,by omega,by rw [h1c];decide,by rw [h1c];omega,mulL (by omega) (by omega),by decide,habc,ck j,(hck j).1,small (by rw [h1j];omega),small (by omega),r'⟩
 ·dsimp! only [true_and]
  rw [<- hMM];have e:(List.range m).map (fun k=>U.str (nk k))=((List.range m).map nk).map U.str:=by rw [List.map_map];rfl
  rw [e]
  exact aU (q ((List.range m).map nk) d5 x5 (by simp) (fun s hs=>by
   obtain ⟨k,_,rfl⟩:=List.mem_map.mp hs
   exact hnn k) (fun h3=>by
    refine List.pairwise_map.mpr (List.Pairwise.imp_of_mem (fun {a b} ha hb hab=>?_) List.pairwise_lt_range);have ha':=List.mem_range.mp ha;have hb':=List.mem_range.mp hb;intro e;have e1:=congrArg (fun s:Str=>s.cps.toList) e;simp only [hnl] at e1;have e2:=List.append_cancel_left (List.append_cancel_right e1);have e3:ck a=ck b:=by injection e2
    have c1:=(hck a).1;have c2:=(hck b).1;rw [<- e3] at c2
    have:=Qa ⟨Int.emod_nonneg _ (by decide),Int.emod_lt_of_pos _ (by decide)⟩ ⟨Int.emod_nonneg _ (by decide),Int.emod_lt_of_pos _ (by decide)⟩ c1 c2
    obtain ⟨rfl,rfl⟩ | ⟨rfl,rfl⟩ | ⟨rfl,rfl⟩:(a=0/\b=1)\/(a=0/\b=2)\/(a=1/\b=2):=by omega
    ·simp at this;omega
    ·simp at this;omega
    ·simp at this;omega) l1 l2 l3)
variable {α β:Type}
theorem BJ (g:α->β) (l:List α) (a b:Option Int):jT (l.map g) a b=(jT l a b).map g:=by
 unfold jT;rw [List.length_map,List.map_take,List.map_drop]
variable {j:Nat}
theorem Sx (l:List α) (h:j<=l.length):jT l (some (j:Int)) none=l.drop j:=by
 unfold jT
 have e:HT.bM l.length 0 (some (j:Int))=j:=by
  simp only [HT.bM];rw [if_neg (by omega)];omega
 have e2:HT.bM l.length l.length none=l.length:=rfl;rw [e,e2,List.take_of_length_le (by rw [List.length_drop];omega)]
theorem DQ (l:List α) (h:j<=l.length):jT l none (some (j:Int))=l.take j:=by
 unfold jT
 have e:HT.bM l.length l.length (some (j:Int))=j:=by
  simp only [HT.bM];rw [if_neg (by omega)];omega
 rw [e];simp [HT.bM]
inductive Wt where
 | num (n:Int) | name (x:Str) | piece (k:Int) | turn (a:Wt) | two (o:Op) (a b:Wt)
def Wt.toU:Wt->U
 | .num n=>.tup [.str (Str.ofString "num"),.int n]
 | .name x=>.tup [.str (Str.ofString "name"),.str x]
 | .piece k=>.tup [.str (Str.ofString "piece"),.int k]
 | .turn a=>.tup [.str (Str.ofString "turn"),a.toU]
 | .two o a b=>.tup [.str o.word,a.toU,b.toU]
def Wt.size:Wt->Nat
 | .turn a=>a.size + 1
 | .two _ a b=>a.size + b.size + 1
 | _=>1
def Wt.dep:Wt->Nat
 | .turn a=>a.dep + 1
 | .two _ a b=>max a.dep b.dep + 1
 | _=>1
def Wt.good (m:Int):Wt->Prop
 | .num n=>0<=n/\n<=1000000000000000000
 | .name x=>isName (.str x)=true
 | .piece k=>0<=k/\k < m
 | .turn a=>a.good m
 | .two _ a b=>a.good m/\b.good m
def Pt.hol:Pt->List Str
 | .hole c=>[c]
 | .turn a=>a.hol
 | .two _ a b=>a.hol++b.hol
 | _=>[]
def vT (cs:List Str) (p:Pt):Prop:=∀ s∈p.hol,s∈cs
variable {cs:List Str} {a:Pt}
theorem CC {o:Op} {b:Pt} (h1:vT cs a) (h2:vT cs b):vT cs (.two o a b):=fun s hs=>by
 rcases List.mem_append.mp hs with h | h
 ·exact h1 s h
 ·exact h2 s h
theorem Ec (h0:0<=n) (h1:n < 3):∃ o:Op,dH [U.str (Str.ofString "sum"),U.str (Str.ofString "less"),U.str (Str.ofString "by")] n=some (.str o.word):=by
 have e:n=0\/n=1\/n=2:=by omega
 rcases e with rfl | rfl | rfl
 ·exact ⟨.sum,rfl⟩
 ·exact ⟨.less,rfl⟩
 ·exact ⟨.by_,rfl⟩
theorem Fc (h0:0<=n) (h1:n < cs.length):∃ s,s∈cs/\dH (cs.map U.str) n=some (.str s):=by
 have hlt:n.toNat < cs.length:=by omega
 refine ⟨cs[n.toNat],List.getElem_mem hlt,?_⟩
 have:=fK (xs:=cs.map U.str) (j:=n.toNat) (v:=.str cs[n.toNat]) (by rw [List.getElem?_map,List.getElem?_eq_getElem hlt];rfl)
 rw [Int.toNat_of_nonneg h0] at this;exact this
def uG (n:Nat):bE:=fun us M Q=>∃ (f:Addr) (d x:Int) (cs:List Str) (k:Nat),us=[.ref f,aW cs,.int (k:Int)]/\M f=some (.lst (bH d x))/\0<=d/\0<=x/\x<=2147484647/\k < n/\k<=3/\fT cs /\
 ∀ (p:Pt) (d' x':Int),p.ok->p.dep<=k + 1->vT cs p->0<=d'->0<=x'->x'<=2147484647->Q p.toU (mup M f (.lst (bH d' x')))
theorem MJ {n:Nat} (F:cI K "_law_inner" "_law_inner" oZ f fd) (hm:mg "_law_inner"=some (.ref f)) (bA:mg "len"=none) (aS:Callee P w K mg base 1 "_law_take" nA []) (iY:Callee P w K mg base (n + 1) "_law_inner" (uG n) []):Callee P w K mg base (n + 2) "_law_inner" (uG (n + 1)) []:=by
 refine bQ F hm nG (uD fun _ _ _ _ _ _ _ _ _=>rfl) (aE (aR 3 nG.nd (aK aS (aA (uv 0) (aA aO aB))))
 (aE (cF (cB lI (uv 3) aO)
 (aJ (bC (bN (aA gL aB))))
 bO)
 (aE (cF (cB lI (uv 3) aO)
 (aE (aR 4 nG.nd (aK aS (aA (uv 0) (aA aO aB))))
 (aJ (bC (bN (aA gL (aA (uv 4) (aA (cQ (own:=false) (uv 4) (aK aS (aA (uv 0) (aA aO aB)))) aB)))))))
 bO)
 (aE (cF (q8.pt (IM (cB lI (uv 2) aO) (Ek (cB Ez (uv 3) aO))))
 (aJ (bC (bN (aA gL (aA (aP (uv 1) (aK aS (aA (uv 0) (aA (fB eC bA (aA (uv 1) aB)) aB)))) aB)))))
 bO)
 (aE (cF (cB lI (uv 3) aO)
 (aJ (bC (bN (aA gL (aA (aK iY (aA (uv 0) (aA (uv 1) (aA (kE (uv 2) aO) aB)))) aB)))))
 bO)
 (aE (aR 5 nG.nd (aP (cG (own:=false) (aA gL (aA gL (aA gL aB)))) (aK aS (aA (uv 0) (aA aO aB)))))
 (aJ (bC (bN (aA (uv 5) (aA (aK iY (aA (uv 0) (aA (uv 1) (aA (kE (uv 2) aO) aB)))) (aA (aK iY (aA (uv 0) (aA (uv 1) (aA (kE (uv 2) aO) aB)))) aB)))))))))))) ?_
 rintro us M Q ⟨r,d,x,cs,k,rfl,hM,hd,hx0,hx,hk,hk3,hC,q⟩;refine ⟨rfl,?_⟩
 have hc1:1<=cs.length:=by
  cases h:cs with
  | nil=>exact absurd h hC.ne
  | cons a b=>simp
 have hc6:=hC.len;refine aH fun V hV=>?_;simp! only [aY,hName,aW];refine ⟨r,d,x,10,rfl,hM,hd,hx0,hx,by omega,by omega,fun wy d1 x1 a1 b1 c1 c2 c3=>?_⟩;subst hV;refine aH fun V hV=>?_;refine bX fun A B hA hB=>?_;simp! only [true_and];refine kP (fun _=>?_) (fun h0=>?_)
 ·subst hA
  simp! only [bU];exact aU (q .any d1 x1 trivial (by simp [Pt.dep]) (fun s hs=>by cases hs) c1 c2 c3)
 subst hB;simp only [cE];subst hV;refine aH fun V hV=>?_;refine bX fun A B hA hB=>?_;simp! only [true_and];refine kP (fun _=>?_) (fun h1=>?_)
 ·subst hA
  refine aH fun V hV=>?_;simp! only [aY,hName];refine ⟨r,d1,x1,4,rfl,aD,c1,c2,c3,by omega,by omega,fun lo d2 x2 a2 b2 f1 f2 f3=>?_⟩;rw [aZ];subst hV;simp! only [bU];refine ⟨r,d2,x2,3,rfl,aD,f1,f2,f3,by omega,by omega,fun mo d3 x3 a3 b3 g1 g2 g3=>?_⟩;rw [aZ];exact aU (q (.fr lo (lo + mo)) d3 x3 ⟨a2,by omega⟩ (by simp [Pt.dep]) (fun s hs=>by cases hs) g1 g2 g3)
 subst hB;simp only [cE];subst hV;refine aH fun V hV=>?_;refine bX fun A B hA hB=>?_
 have goA:A (mup M r (.lst (bH d1 x1))):=by
  subst hA;simp! only [bU,List.length_map];refine ⟨r,d1,x1,cs.length,rfl,aD,c1,c2,c3,by omega,by omega,fun i d2 x2 a2 b2 f1 f2 f3=>?_⟩;rw [aZ];obtain ⟨s,hs,hat⟩:=Fc (cs:=cs) (n:=i) a2 b2;exact ⟨_,hat,aU (q (.hole s) d2 x2 (hC.ok s hs) (by simp [Pt.dep]) (fun z hz=>by cases List.mem_singleton.mp hz;exact hs) f1 f2 f3)⟩
 simp! only [true_and];refine kP (fun _=>goA) (fun h2=>?_);refine kP (fun _=>goA) (fun h3=>?_);have hk0:k≠0:=fun z=>h2 (by subst z;rfl);obtain ⟨k',rfl⟩:∃ k',k=k' + 1:=⟨k - 1,by omega⟩;have ek:((k' + 1:Nat):Int) - 1=(k':Int):=by push_cast;omega
 subst hB;simp only [cE];subst hV;refine aH fun V hV=>?_;refine bX fun A B hA hB=>?_;simp! only [true_and];refine kP (fun _=>?_) (fun h7=>?_)
 ·subst hA
  simp! only [bU,ek,aW];refine ⟨r,d1,x1,cs,k',rfl,aD,c1,c2,c3,by omega,by omega,hC,fun p d2 x2 e1 e2 e3 f1 f2 f3=>?_⟩;rw [aZ];simp! only [true_and];exact aU (q (.turn p) d2 x2 e1 (by simp only [Pt.dep];omega) e3 f1 f2 f3)
 subst hB;simp only [cE];subst hV;refine aH fun V hV=>?_;simp! only [aY,hName];refine ⟨r,d1,x1,3,rfl,aD,c1,c2,c3,by omega,by omega,fun i d2 x2 a2 b2 f1 f2 f3=>?_⟩;rw [aZ];obtain ⟨o,ho⟩:=Ec a2 b2;refine ⟨_,ho,?_⟩;subst hV;simp! only [bU,ek,aW];refine ⟨r,d2,x2,cs,k',rfl,aD,f1,f2,f3,by omega,by omega,hC,fun p d3 x3 e1 e2 e3 g1 g2 g3=>?_⟩;rw [aZ];simp! only [ek,aW];refine ⟨r,d3,x3,cs,k',rfl,aD,g1,g2,g3,by omega,by omega,hC,fun p2 d4 x4 e4 e5 e6 k1 k2 k3=>?_⟩;rw [aZ];simp! only [true_and];exact aU (q (.two o p p2) d4 x4 ⟨e1,e4⟩ (by simp only [Pt.dep];omega) (CC e3 e6) k1 k2 k3)
theorem Cs (F:cI K "_law_inner" "_law_inner" oZ f fd) (hm:mg "_law_inner"=some (.ref f)) (bA:mg "len"=none) (aS:Callee P w K mg base 1 "_law_take" nA []):∀ n,Callee P w K mg base (n + 1) "_law_inner" (uG n) []
 | 0=>by
  have no:∀ us M Q,¬ uG 0 us M Q:=fun us M Q h=>by
   obtain ⟨_,_,_,_,_,_,_,_,_,_,h,_⟩:=h;omega
  refine ⟨f,fd,["feed","classes","deep"],[],[],⟨fun vs H Q E h=>?_,fun A outer s H args us vs Q E _ _ _ _ h=>?_⟩,hm,F.kp,F.binds (uD fun _ _ _ _ _ _ _ _ _=>rfl),.nil,fun H M=>.nil⟩
  ·obtain ⟨us,M,Q',_,_,h,_⟩:=h;exact absurd h (no us M Q')
  ·obtain ⟨us,M,Q',_,_,h,_⟩:=h;exact absurd h (no us M Q')
 | n + 1=>MJ F hm bA aS (Cs F hm bA aS n)
theorem NZ (h0:0<=n) (h1:n < 5):∃ o:Op,dH [U.str (Str.ofString "sum"),U.str (Str.ofString "less"),U.str (Str.ofString "by"),U.str (Str.ofString "sum"),U.str (Str.ofString "by")] n=some (.str o.word):=by
 have e:n=0\/n=1\/n=2\/n=3\/n=4:=by omega
 rcases e with rfl | rfl | rfl | rfl | rfl
 ·exact ⟨.sum,rfl⟩
 ·exact ⟨.less,rfl⟩
 ·exact ⟨.by_,rfl⟩
 ·exact ⟨.sum,rfl⟩
 ·exact ⟨.by_,rfl⟩
variable {sk:Int}
theorem OY {n:Nat} {X:Prop} (h:4<=n) (f:∀ k:Nat,2<=k->k < n->(k:Int)≠sk->X):X:=by
 by_cases e:sk=2
 ·exact f 3 (by omega) (by omega) (by omega)
 ·exact f 2 (by omega) (by omega) (by omega)
variable {i:Nat}
theorem MU {k:Nat} (h:¬ (!decide ((0:Int) + i=sk))=true) (h2:k < i + 1) (h3:(k:Int)≠sk):k < i:=by
 have e:(0:Int) + i=sk:=by simpa using h
 omega
def HX:Pt->Bool
 | .any=>false
 | .fr _ _=>false
 | _=>true
def Lm:bE:=fun us M Q=>∃ (f:Addr) (d x:Int) (cs:List Str) (c:Str),us=[.ref f,aW cs,.str c]/\M f=some (.lst (bH d x))/\0<=d/\0<=x/\x<=2147484647/\fT cs /\
 ∀ (p:Pt) (d' x':Int),p.ok->p.dep<=3->vT cs p->HX p=true->0<=d'->0<=x'->x'<=2147484647->Q p.toU (mup M f (.lst (bH d' x')))
def tT (c:Str):U->Option U
 | .str z=>if z=c then none else some (.str z)
 | _=>none
theorem Cj (c:Str):∀ cs:List Str,(cs.map U.str).filterMap (tT c)=(cs.filter fun z=>!decide (z=c)).map U.str
 | []=>rfl
 | z :: cs=>by
  have ih:=Cj c cs
  by_cases h:z=c
  ·simp only [List.map_cons,List.filterMap_cons,tT,if_pos h,List.filter_cons,h,decide_true,Bool.not_true,Bool.false_eq_true,if_false];exact ih
  ·simp only [List.map_cons,List.filterMap_cons,tT,if_neg h,List.filter_cons,decide_eq_false h,Bool.not_false,if_true];rw [ih]
theorem Qz (F:cI K "_law_pattern" "_law_pattern" pP f fd) (hm:mg "_law_pattern"=some (.ref f)) (bA:mg "len"=none) (aS:Callee P w K mg base 1 "_law_take" nA []) (iY:Callee P w K mg base 5 "_law_inner" (uG 4) []):Callee P w K mg base 6 "_law_pattern" Lm []:=by
 refine bQ F hm lK (uD fun _ _ _ _ _ _ _ _ _=>rfl) (aE (aR 3 lK.nd (aK aS (aA (uv 0) (aA aO aB))))
 (aE (qL 4 lK.nd false ["one","cls"] 1 [2] (eA (uv 1)) (aX (k:=1) 0 (by dsimp only [bZ];decide +kernel)) (yH (cB yY (uv 0) (uv 1))) (uv 0))
 (aE (cF (q8.pt (AS (cB lI (uv 3) aO) (yI (cB Mu (fB eC bA (aA (uv 4) aB)) aO))))
 (aJ (bC (bN (aA gL (aA (aP (uv 4) (aK aS (aA (uv 0) (aA (fB eC bA (aA (uv 4) aB)) aB)))) aB)))))
 bO)
 (aE (cF (cB Ez (uv 3) aO)
 (aJ (bC (bN (aA gL (aA (aK iY (aA (uv 0) (aA (uv 1) (aA aO aB)))) aB)))))
 bO)
 (aE (aR 5 lK.nd (aP (cG (own:=false) (aA gL (aA gL (aA gL (aA gL (aA gL aB)))))) (kE (uv 3) aO)))
 (aJ (bC (bN (aA (uv 5) (aA (aK iY (aA (uv 0) (aA (uv 1) (aA aO aB)))) (aA (aK iY (aA (uv 0) (aA (uv 1) (aA aO aB)))) aB))))))))))) ?_
 rintro us M Q ⟨r,d,x,cs,c,rfl,hM,hd,hx0,hx,hC,q⟩;refine ⟨rfl,?_⟩;have hc6:=hC.len;refine aH fun V hV=>?_;simp! only [aY,hName,aW];refine ⟨r,d,x,7,rfl,hM,hd,hx0,hx,by omega,by omega,fun wy d1 x1 a1 b1 c1 c2 c3=>?_⟩;subst hV;refine aH fun V hV=>?_;simp only [aY,hName];refine Bl (S:=⟨none,cs.map U.str⟩) (M1:=mup M r (.lst (bH d1 x1))) (tT c) (fun R r=>by simp! only [true_and];exact r) (by simp only [List.length_map];exact small (by omega)) (by intro a e;cases e) (fun z hz M' _ R r=>?_) ?_
 ·obtain ⟨s,hs,rfl⟩:=List.mem_map.mp hz
  simp! only [true_and]
  by_cases h:s=c
  ·simp only [tT,if_pos h] at r
   simp! only [hName,h];exact r
  ·simp only [tT,if_neg h] at r
   simp! only [hName,decide_eq_false h];exact r
 rw [Cj];generalize ho:(cs.filter fun z=>!decide (z=c))=os;have hos:∀ s∈os,s∈cs:=fun s hs=>by subst ho;exact (List.mem_filter.mp hs).1
 have hol:os.length<=cs.length:=by subst ho;exact List.length_filter_le _ _
 simp only [i7];subst hV;refine aH fun V hV=>?_;refine bX fun A B hA hB=>?_
 have goB:B (mup M r (.lst (bH d1 x1))):=by
  subst hB;simp only [cE];subst hV;refine aH fun V hV=>?_;refine bX fun A B hA hB=>?_;simp! only [true_and];refine kP (fun _=>?_) (fun h2=>?_)
  ·subst hA
   simp! only [bU,aW];refine ⟨r,d1,x1,cs,1,rfl,aD,c1,c2,c3,by omega,by omega,hC,fun p d2 x2 e1 e2 e3 f1 f2 f3=>?_⟩;rw [aZ];simp! only [true_and];exact aU (q (.turn p) d2 x2 e1 (by simp only [Pt.dep];omega) e3 rfl f1 f2 f3)
  subst hB;simp only [cE];subst hV;refine aH fun V hV=>?_
  have hw2:2<=wy:=by
   have:¬ wy < 2:=fun z=>h2 (by simpa using z)
   omega
  obtain ⟨o,ho⟩:=NZ (n:=wy - 2) (by omega) (by omega);simp! only [aY,hName,ho];subst hV;simp! only [bU,aW];refine ⟨r,d1,x1,cs,1,rfl,aD,c1,c2,c3,by omega,by omega,hC,fun p d3 x3 e1 e2 e3 g1 g2 g3=>?_⟩;rw [aZ];simp! only [aW];refine ⟨r,d3,x3,cs,1,rfl,aD,g1,g2,g3,by omega,by omega,hC,fun p2 d4 x4 e4 e5 e6 k1 k2 k3=>?_⟩;rw [aZ];simp! only [true_and];exact aU (q (.two o p p2) d4 x4 ⟨e1,e4⟩ (by simp only [Pt.dep];omega) (CC e3 e6) rfl k1 k2 k3)
 simp! only [List.length_map];refine kP (fun _=>?_) (fun _=>goB);refine kP (fun hp=>?_) (fun _=>goB);have hp1:0 < os.length:=by have:=of_decide_eq_true hp;omega
 subst hA;simp! only [bU,List.length_map];refine ⟨r,d1,x1,os.length,rfl,aD,c1,c2,c3,by omega,by omega,fun i d2 x2 a2 b2 f1 f2 f3=>?_⟩;rw [aZ];obtain ⟨s,hs,hat⟩:=Fc (cs:=os) (n:=i) a2 b2;exact ⟨_,hat,aU (q (.hole s) d2 x2 (hC.ok s (hos s hs)) (by simp [Pt.dep]) (fun z hz=>by cases List.mem_singleton.mp hz;exact hos s hs) rfl f1 f2 f3)⟩
structure Uv (cs:List Str) (t:Tl):Prop where
 good:t.k.pt.ok/\t.k.pt.dep<=3
 cls:t.k.cls∈cs
 cost:0<=t.k.cost/\t.k.cost<=1000
 hol:vT cs t.k.pt
structure lW (cs:List Str) (tls:List Tl):Prop where
 cls:fT cs
 all:∀ t∈tls,Uv cs t
 len:tls.length<=10
variable {tls:List Tl}
theorem lW.tab (h:lW cs tls):Tab cs tls:=⟨h.cls,fun t ht=>⟨(h.all t ht).good.1,by have:=(h.all t ht).good.2;omega⟩,by have:=h.len;omega⟩
theorem RO {a b c:Int} (ha:0<=a/\a < 3) (hb:0<=b/\b < 12) (hc:0<=c/\c < 1001) (h0:0<=n) (h1:n < 3):∃ e,dH [U.int a,U.int b,U.int c] n=some (.int e)/\0<=e/\e<=1000:=by
 have e:n=0\/n=1\/n=2:=by omega
 rcases e with rfl | rfl | rfl <;> exact ⟨_,rfl,by omega,by omega⟩
theorem Qe (h0:0<=n) (h1:n < 2):∃ p:Pt,dH [Pt.any.toU,(Pt.fr 0 (10 ^ Int.toNat 18)).toU] n=some p.toU/\p.ok/\p.dep<=3/\p.hol=[]:=by
 have e:n=0\/n=1:=by omega
 rcases e with rfl | rfl
 ·exact ⟨.any,rfl,trivial,by simp [Pt.dep],rfl⟩
 ·exact ⟨.fr 0 _,rfl,⟨by omega,by decide⟩,by simp [Pt.dep],rfl⟩
def KO:bE:=fun us M Q=>∃ (f:Addr) (d x:Int) (m:Nat),us=[.ref f,.int (m:Int)]/\M f=some (.lst (bH d x))/\0<=d/\0<=x/\x<=2147484647/\1<=m/\m<=3 /\
 ∀ (cs:List Str) (tls:List Tl) (d' x':Int),lW cs tls->cs.Nodup->cs.length<=m->(∃ tl,tls.getLast?=some tl/\HX tl.k.pt=true)->0<=d'->0<=x'->x'<=2147484647->Q (dP cs tls) (mup M f (.lst (bH d' x')))
theorem O7 (F:cI K "_law_table" "_law_table" tF f fd) (hm:mg "_law_table"=some (.ref f)) (bA:mg "len"=none) (gE:mg "range"=none) (gU:mg "tuple"=none) (aS:Callee P w K mg base 1 "_law_take" nA []) (m9:Callee P w K mg base 2 "_law_unlike" Ak []) (C3:Callee P w K mg base 6 "_law_pattern" Lm []):Callee P w K mg base 7 "_law_table" KO []:=by
 refine bQ F hm dA (rQ fun _ _ _ _ _ _ _ _=>rfl) (aE (aR 2 dA.nd (wW t5 gU (aA (aK m9 (aA (uv 0) (aA (cQ (own:=false) aO (aK aS (aA (uv 0) (aA (uv 1) aB)))) aB))) aB)))
 (aE (aR 3 dA.nd (cQ (own:=false) aO (aK aS (aA (uv 0) (aA aO aB)))))
 (aE (aR 4 dA.nd (aK m9 (aA (uv 0) (aA (cQ (own:=false) (uv 3) aO) aB))))
 (aE (aR 5 dA.nd (aK aS (aA (uv 0) (aA aO aB))))
 (aE (aR 6 dA.nd (cG (own:=true) aB))
 (aE (eI (tO gE (aA (cQ (own:=false) (uv 3) aO) aB)) (aX (k:=1000) 7 dA.nd)
 (aE (aR 8 dA.nd (aP (uv 2) (aK aS (aA (uv 0) (aA (fB eC bA (aA (uv 2) aB)) aB)))))
 (aE (aR 9 dA.nd (aP (cG (own:=false) (aA (aK aS (aA (uv 0) (aA aO aB))) (aA (aK aS (aA (uv 0) (aA aO aB))) (aA (aK aS (aA (uv 0) (aA aO aB))) aB)))) (aK aS (aA (uv 0) (aA aO aB)))))
 (aE (aR 10 dA.nd (aK C3 (aA (uv 0) (aA (uv 2) (aA (uv 8) aB)))))
 (aE (cF (cB Ez (uv 7) aO)
 (aJ (aR 10 dA.nd (aP (cG (own:=false) (aA (bN (aA gL aB)) (aA (bN (aA gL (aA aO (aA (E6 aO aO) aB)))) aB))) (uv 7))))
 bO)
 (aJ (cF (cB yY (uv 7) (uv 5))
 (aJ (dM (jW (uv 6) (aA (bN (aA (aP (uv 4) (uv 7)) (aA (uv 8) (aA (uv 10) (aA (uv 9) aB))))) aB))))
 bO)))))))
 (aJ (bC (bN (aA (uv 2) (aA (wW t5 gU (aA (uv 6) aB)) aB))))))))))) ?_
 rintro us M Q ⟨r,d,x,m,rfl,hM,hd,hx0,hx,hm1,hm3,q⟩;refine ⟨rfl,?_⟩;refine aH fun V hV=>?_;simp! only [aY,hName];refine ⟨r,d,x,m,rfl,hM,hd,hx0,hx,by omega,by omega,fun n1 d1 x1 a1 b1 c1 c2 c3=>?_⟩;simp! only [true_and];obtain ⟨k1,hk1⟩:∃ k1:Nat,1 + n1=(k1:Int):=⟨(1 + n1).toNat,by omega⟩;rw [hk1];refine ⟨r,d1,x1,k1,rfl,aD,c1,c2,c3,by omega,fun cs d2 x2 hcl hcn hcd e1 e2 e3=>?_⟩;rw [aZ];simp! only [true_and];have hC:fT cs:=⟨fun z=>by subst z;simp at hcl;omega,by omega,fun s hs=>O9 (hcn s hs)⟩;subst hV;refine aH fun V hV=>?_;simp! only [aY,hName];refine ⟨r,d2,x2,7,rfl,aD,e1,e2,e3,by omega,by omega,fun n2 d3 x3 a3 b3 f1 f2 f3=>?_⟩;rw [aZ];simp! only [true_and];subst hV;refine aH fun V hV=>?_;simp! only [aY,hName];obtain ⟨k2,hk2⟩:∃ k2:Nat,2 + n2 + 2=(k2:Int):=⟨(2 + n2 + 2).toNat,by omega⟩;rw [hk2];refine ⟨r,d3,x3,k2,rfl,aD,f1,f2,f3,by omega,fun ns d4 x4 hnl hnn _ g1 g2 g3=>?_⟩;rw [aZ];subst hV;refine aH fun V hV=>?_;simp! only [aY,hName];refine ⟨r,d4,x4,8,rfl,aD,g1,g2,g3,by omega,by omega,fun sk d5 x5 a5 b5 i1 i2 i3=>?_⟩;rw [aZ];subst hV;refine aH fun V hV=>?_;simp! only [aY,hName];refine fun t ht=>?_;have hrt:r≠t:=fun z=>by rw [<- z,aD] at ht;cases ht
 have hMt:M t=none:=by rw [aF hrt.symm] at ht;exact ht
 have est:mup (mup M r (.lst (bH d5 x5))) t (.lst [])=cO M r t (bH d5 x5) (([]:List Tl).map Tl.toU):=rfl;rw [est];subst hV;refine aH fun V hV=>?_
 refine eP (S:=⟨none,dO 0 k2⟩) (M1:=cO M r t (bH d5 x5) (([]:List Tl).map Tl.toU)) (fun R r=>by
   simp! only [true_and];rw [hk2];refine ⟨by omega,by omega,?_⟩
   rw [Int.toNat_natCast];exact r)
  (fun i τ' M'=>∃ (e7 e8 e9 e10:Option U) (tls:List Tl) (d6 x6:Int),τ'=[some (.ref r),some (.int m),some (aW cs),some (.int (2 + n2)),some (.lst (ns.map U.str)),some (.int sk),some (.ref t),e7,e8,e9,e10]/\M'=cO M r t (bH d6 x6) (tls.map Tl.toU)/\(∀ z∈tls,Uv cs z)/\tls.length<=i/\(∀ k:Nat,2<=k->k < i->(k:Int)≠sk->∃ tl,tls.getLast?=some tl/\HX tl.k.pt=true)/\0<=d6/\0<=x6/\x6<=2147484647)
  ⟨none,none,none,none,[],d5,x5,rfl,rfl,(fun z hz=>by cases hz),by simp,(fun k h1 h2=>by omega),i1,i2,i3⟩ (fun i τ' M' _=>fun a e=>by cases e) ?_ ?_
 ·rintro i v τ' M' hi ⟨e7,e8,e9,e10,tls,d6,x6,rfl,rfl,htl,hlen,hlst,j1,j2,j3⟩
  obtain ⟨rfl,hik⟩:=m6 hi;simp! only [hName];refine aH fun V2 hV2=>?_;simp! only [aY,hName,aW,List.length_map];refine ⟨r,d6,x6,cs.length,rfl,yL hrt,j1,j2,j3,by omega,by omega,fun n7 d7 x7 a7 b7 l1 l2 l3=>?_⟩;rw [nU hrt];obtain ⟨cl,hcl2,hat⟩:=Fc (cs:=cs) (n:=n7) a7 b7;refine ⟨_,hat,?_⟩;subst hV2;refine aH fun V2 hV2=>?_;simp! only [aY,hName];refine ⟨r,d7,x7,3,rfl,yL hrt,l1,l2,l3,by omega,by omega,fun na d8 x8 a8 b8 o1 o2 o3=>?_⟩;rw [nU hrt];simp! only [true_and];refine ⟨r,d8,x8,12,rfl,yL hrt,o1,o2,o3,by omega,by omega,fun nb d9 x9 a9 b9 p1 p2 p3=>?_⟩;rw [nU hrt];simp! only [true_and];refine ⟨r,d9,x9,1001,rfl,yL hrt,p1,p2,p3,by omega,by omega,fun nc da xa aa ba q1 q2 q3=>?_⟩;rw [nU hrt];simp! only [true_and];refine ⟨r,da,xa,3,rfl,yL hrt,q1,q2,q3,by omega,by omega,fun nd db xb ab bb r1 r2 r3=>?_⟩;rw [nU hrt];obtain ⟨fee,hfee,hf0,hf1⟩:=RO ⟨a8,b8⟩ ⟨a9,b9⟩ ⟨aa,ba⟩ ab bb;refine ⟨_,hfee,?_⟩;subst hV2;refine aH fun V2 hV2=>?_;simp! only [aY,hName];refine ⟨r,db,xb,cs,cl,rfl,yL hrt,r1,r2,r3,hC,fun pt dc xc h1 h2 h3 h4 s1 s2 s3=>?_⟩;rw [nU hrt];subst hV2;refine aH fun V2 hV2=>?_
  have tail:∀ (p:Pt),p.ok->p.dep<=3->vT cs p->(2<=i->HX p=true)->V2 (List.set [some (U.ref r),some (U.int m),some (aW cs),some (U.int (2 + n2)),some (U.lst (ns.map U.str)),some (U.int sk),some (U.ref t),some (U.int (0 + i)),some (U.str cl),some (U.int fee),some pt.toU] 10 (some p.toU)) (cO M r t (bH dc xc) (tls.map Tl.toU)):=by
   intro p w1 w2 w3 w4;subst hV2;refine bX fun A B hA hB=>?_;simp! only [true_and];refine kP (fun _=>?_) (fun hsk=>?_)
   ·subst hA
    obtain ⟨nm,hnm⟩:∃ nm,ns[i]?=some nm:=⟨ns[i]'(by omega),List.getElem?_eq_getElem (by omega)⟩
    have hat2:dH (ns.map U.str) (0 + (i:Int))=some (.str nm):=by
     have:=fK (xs:=ns.map U.str) (j:=i) (v:=.str nm) (by rw [List.getElem?_map,hnm];rfl)
     rw [Int.zero_add];exact this
    simp! only [eK,hat2,Dz];refine ⟨⟨_,bJ Dz⟩,by rw [List.length_map];exact big (by omega),?_⟩;rw [NA];refine ⟨_,_,_,_,tls++[⟨nm,⟨cl,p,fee⟩⟩],dc,xc,rfl,by rw [List.map_append];rfl,fun z hz=>?_,by rw [List.length_append];simp;omega,fun k hk1 hk2 _=>⟨_,List.getLast?_concat,w4 (by omega)⟩,s1,s2,s3⟩
    rcases List.mem_append.mp hz with hz | hz
    ·exact htl z hz
    ·cases List.mem_singleton.mp hz;exact ⟨⟨w1,w2⟩,hcl2,⟨hf0,hf1⟩,w3⟩
   ·subst hB
    simp only [cE];exact ⟨_,_,_,_,tls,dc,xc,rfl,rfl,htl,by omega,(fun k hk1 hk2 hk3=>hlst k hk1 (MU hsk hk2 hk3) hk3),s1,s2,s3⟩
  refine bX fun A B hA hB=>?_;simp! only [true_and];refine kP (fun hi2=>?_) (fun _=>?_)
  ·subst hA
   have hi2':(0:Int) + i < 2:=of_decide_eq_true hi2;obtain ⟨p,hp,w1,w2,w3⟩:=Qe (n:=0 + (i:Int)) (by omega) hi2'
   have hp':dH [U.tup [U.str (Str.ofString "any")],U.tup [U.str (Str.ofString "from"),U.int 0,U.int (10 ^ Int.toNat 18)]] (0 + (i:Int))=some p.toU:=hp
   simp! only [aY,hName,hp'];refine ⟨⟨by decide,by decide,by decide⟩,?_⟩;exact tail p w1 w2 (fun s hs=>by rw [w3] at hs;cases hs) (fun h=>by omega)
  ·subst hB
   simp only [cE];exact tail pt h1 h2 h3 (fun _=>h4)
 ·rintro τ' M' ⟨e7,e8,e9,e10,tls,d6,x6,rfl,rfl,htl,hlen,hlst,j1,j2,j3⟩
  rw [lL] at hlen;subst hV;simp! only [bU,Dz];have hvw:view (cO M r t (bH d6 x6) (tls.map Tl.toU)) (.ref t)=.lst (tls.map Tl.toU):=by simp only [view,Dz]
  simp only [hvw];refine ⟨_,mup M r (.lst (bH d6 x6)),fun b mo e=>?_,.inl rfl,q cs tls d6 x6 ⟨hC,htl,by omega⟩ (hcd (by omega)) (by omega) (OY (by rw [lL];omega) hlst) j1 j2 j3⟩
  by_cases hb:b=t
  ·subst hb;rw [aF hrt.symm,hMt] at e;cases e
  ·unfold cO;rw [aF hb];exact e
def oN:Option Nat->U
 | none=>.non
 | some n=>.int (n:Int)
def bG (l:List (Option Nat)):List U:=l.map oN
theorem kY (l:List (Option Nat)):(bG l).length=l.length:=List.length_map _
theorem E8 (l:List (Option Nat)) (i:Nat) (n:Nat):(bG l).set i (.int (n:Int))=bG (l.set i (some n)):=by
 rw [bG,bG,List.map_set];rfl
variable {l:List (Option Nat)}
theorem vR {v:Option Nat} (h:l[i]?=some v):dH (bG l) (i:Int)=some (oN v):=fK (by rw [bG,List.getElem?_map,h];rfl)
theorem xD (n:Nat):(List.replicate n [U.non]).flatten=bG (List.replicate n none):=by
 induction n with
 | zero=>rfl
 | succ k ih=>rw [List.replicate_succ,List.flatten_cons,ih,List.replicate_succ];rfl
variable {n:Nat}
theorem Bw (h:i < n):rH n (i:Int)=some i:=by
 unfold rH;rw [if_pos (by omega),if_pos (by omega)];simp
def k7 (l:List (Option Nat)) (i n:Nat):List (Option Nat):=match l[i]? with
 | some none=>l.set i (some n)
 | some (some m)=>if n < m then l.set i (some n) else l
 | none=>l
theorem nT (l:List (Option Nat)) (i n:Nat):(k7 l i n).length=l.length:=by
 unfold k7;split
 ·simp
 ·split <;> simp
 ·rfl
def qN:bE:=fun us M Q=>∃ (p:Addr) (l:List (Option Nat)) (i n:Nat),us=[.ref p,.int (i:Int),.int (n:Int)]/\M p=some (.lst (bG l))/\i < l.length/\Q .non (mup M p (.lst (bG (k7 l i n))))
theorem LM (F:cI K "lower" "lower" B6 f fd) (hm:mg "lower"=some (.ref f)):Callee P w K mg base 1 "lower" qN []:=by
 refine bQ F hm My (uD fun _ _ _ _ _ _ _ _ _=>rfl) (aJ (cF (q8.pt (IM (cB G9 (aP (uv 0) (uv 1)) lX) (Ek (cB Ez (uv 2) (aP (uv 0) (uv 1))))))
 (aJ (tM (uv 2) (uv 0) (uv 1)))
 bO)) ?_
 rintro us M Q ⟨p,l,i,n,rfl,hM,hi,q⟩;refine ⟨rfl,?_⟩;obtain ⟨v,hv⟩:∃ v,l[i]?=some v:=⟨_,List.getElem?_eq_getElem hi⟩;have hat:=vR hv;have hvw:view M (.ref p)=.lst (bG l):=bJ hM;refine bX fun A B hA hB=>?_
 have goA:k7 l i n=l.set i (some n)->A M:=fun e=>by
  subst hA;rw [e] at q;simp! only [oV,hM,kY];exact ⟨i,Bw hi,by rw [E8];exact aU q⟩
 have goB:k7 l i n=l->B M:=fun e=>by
  subst hB;rw [e] at q;have e2:mup M p (.lst (bG l))=M:=EC hM;rw [e2] at q;simp only [cE];exact aU q
 cases v with
 | none =>
  simp! only [hvw,hat,oN];exact goA (by unfold k7;rw [hv])
 | some m =>
  simp! only [hvw,hat,oN];refine kP (fun h=>goA ?_) (fun h=>goB ?_)
  ·have:=of_decide_eq_true h
   unfold k7;rw [hv];simp only;rw [if_pos (by omega)]
  ·have:¬ (n:Int) < m:=fun z=>h (decide_eq_true z)
   unfold k7;rw [hv];simp only;rw [if_neg (by omega)]
def DM:bE:=fun us M Q=>∃ t:Tl,us=[t.toU]/\Q (.bl t.k.pt.isHole) M
theorem Im (F:cI K "is_pass" "is_pass" xW f fd) (hm:mg "is_pass"=some (.ref f)):Callee P w K mg base 1 "is_pass" DM []:=by
 refine bQ F hm Hr (CA fun _ _ _ _ _ _ _=>rfl) (aJ (bC (MS lI (aP (aP (uv 0) aO) aO) gL))) ?_;rintro us M Q ⟨t,rfl,q⟩;refine ⟨rfl,?_⟩;obtain ⟨z,rr,ez,hz⟩:=rV t.k.pt;simp! only [Tl.toU,ez,hz,bU];exact aU q
def eY (cs:List Str) (s:Str):Nat:=cs.findIdx fun z=>decide (z=s)
variable {s:Str}
theorem pF (h:s∈cs):eY cs s < cs.length/\cs[eY cs s]?=some s/\∀ m z,m < eY cs s->cs[m]?=some z->z≠s:=by
 have hl:eY cs s < cs.length:=List.findIdx_lt_length_of_exists ⟨s,h,by simp⟩;have e:decide (cs[eY cs s]=s)=true:=List.findIdx_getElem (w:=hl) (p:=fun z=>decide (z=s));refine ⟨hl,?_,fun m z hm hz=>?_⟩
 ·rw [List.getElem?_eq_getElem hl,of_decide_eq_true e]
 ·have hml:m < cs.length:=by omega
  rw [List.getElem?_eq_getElem hml] at hz
  have:=List.not_of_lt_findIdx (p:=fun z=>decide (z=s)) hm
  simp only [Bool.not_eq_true,decide_eq_false_iff_not] at this;rw [<- Option.some.inj hz];exact this
theorem KJ (cs:List Str):vB (cs.map U.str)=some cs:=by
 induction cs with
 | nil=>rfl
 | cons a l ih=>simp only [List.map_cons,vB,ih,Option.map_some]
variable {M:aG} {Q:UK}
theorem wU (h:s∈cs) (q:Q (.int (eY cs s:Nat)) M):yT (.tup (cs.map U.str)) [.str s] M Q:=by
 obtain ⟨_,h2,h3⟩:=pF h;exact ⟨cs,eY cs s,KJ cs,h2,h3,q⟩
abbrev T3:=Nat × Nat × Nat
def gZ (x:T3):U:=.tup [.int (x.1:Int),.int (x.2.1:Int),.int (x.2.2:Int)]
def i9 (cs:List Str) (t:Tl):Option T3:=match t.k.pt with
 | .hole c=>some (eY cs c,eY cs t.k.cls,t.k.cost.toNat)
 | _=>none
def m4 (cs:List Str) (tls:List Tl):List T3:=tls.filterMap (i9 cs)
def j7 (l:List (Option Nat)) (x:T3):List (Option Nat):=match l[x.1]? with
 | some (some n)=>k7 l x.2.1 (n + x.2.2)
 | _=>l
def xY (st:List T3):Nat->List (Option Nat)->List (Option Nat)
 | 0,l=>l
 | k + 1,l=>st.foldl j7 (xY st k l)
theorem JE (l:List (Option Nat)) (x:T3):(j7 l x).length=l.length:=by
 unfold j7;split
 ·exact nT _ _ _
 ·rfl
theorem oC:∀ (st:List T3) (l:List (Option Nat)),(st.foldl j7 l).length=l.length
 | [],_=>rfl
 | x :: st,l=>by rw [List.foldl_cons,oC st,JE]
theorem tK (st:List T3):∀ (k:Nat) (l:List (Option Nat)),(xY st k l).length=l.length
 | 0,_=>rfl
 | k + 1,l=>by rw [xY,oC,tK st k]
def iT (n s:Nat):List (Option Nat):=(List.replicate n none).set s (some 0)
def rX (s:Nat) (p:Option Nat × Nat):Option T3:=match p.1 with
 | some n=>if p.2=s then none else some (s,p.2,n)
 | none=>none
def jD (s:Nat) (l:List (Option Nat)):List T3:=l.zipIdx.filterMap (rX s)
def bB (cs:List Str) (tls:List Tl):List T3:=(List.range cs.length).flatMap fun s=>jD s (xY (m4 cs tls) (cs.length - 1) (iT cs.length s))
variable {s:Nat}
theorem Ld (hl:l.length<=n) (hs:s < n):∀ x∈jD s l,x.1 < n/\x.2.1 < n:=fun x hx=>by
 obtain ⟨p,hp,e⟩:=List.mem_filterMap.mp hx;obtain ⟨h1,h2⟩:=List.mem_zipIdx' hp;unfold rX at e;split at e
 ·split at e
  ·cases e
  ·cases e;exact ⟨hs,by simp only;omega⟩
 ·cases e
theorem DJ:∀ x∈bB cs tls,x.1 < cs.length/\x.2.1 < cs.length:=fun x hx=>by
 obtain ⟨s,hs,h⟩:=List.mem_flatMap.mp hx;exact Ld (n:=cs.length) (by rw [tK,iT,List.length_set,List.length_replicate];exact Nat.le_refl _) (List.mem_range.mp hs) x h
theorem D6:(jD s l).length<=l.length:=by
 unfold jD;refine Nat.le_trans (List.length_filterMap_le _ _) ?_;rw [List.length_zipIdx];exact Nat.le_refl _
theorem CI (cs:List Str) (tls:List Tl) (k:Nat):((List.range k).flatMap fun s=>jD s (xY (m4 cs tls) (cs.length - 1) (iT cs.length s))).length<=k * cs.length:=by
 induction k with
 | zero=>simp
 | succ k ih =>
  rw [List.range_succ,List.flatMap_append,List.length_append]
  have h:(([k]:List Nat).flatMap fun s=>jD s (xY (m4 cs tls) (cs.length - 1) (iT cs.length s))).length<=cs.length:=by
   rw [List.flatMap_cons,List.flatMap_nil,List.append_nil];refine Nat.le_trans D6 ?_;rw [tK,iT,List.length_set,List.length_replicate];exact Nat.le_refl _
  rw [Nat.succ_mul];omega
theorem Nn (hT:lW cs tls):∀ x∈m4 cs tls,x.1 < cs.length/\x.2.1 < cs.length:=fun x hx=>by
 obtain ⟨t,ht,e⟩:=List.mem_filterMap.mp hx;have h:=hT.all t ht;unfold i9 at e;split at e
 ·rename_i c hc
  cases e;exact ⟨(pF (h.hol c (by rw [hc];exact List.mem_singleton.mpr rfl))).1,(pF h.cls).1⟩
 ·cases e
variable {x:T3}
theorem L6 (h:l[x.1]?=some (some n)):j7 l x=k7 l x.2.1 (n + x.2.2):=by unfold j7;rw [h]
theorem Ly (h:l[x.1]?=some none):j7 l x=l:=by unfold j7;rw [h]
def Eg (s:Nat) (v:Option Nat) (i:Nat):Option U:=(rX s (v,i)).map gZ
theorem Mm (s:Nat) (l:List (Option Nat)):((l.zipIdx).map fun p=>Eg s p.1 p.2).filterMap id=(jD s l).map gZ:=by
 unfold jD
 induction l.zipIdx with
 | nil=>rfl
 | cons p r ih =>
  rw [List.map_cons,List.filterMap_cons,List.filterMap_cons];simp only [id,Eg]
  cases h:rX s (p.1,p.2) with
  | none=>simp only [Option.map_none];exact ih
  | some y=>simp only [Option.map_some,List.map_cons];exact congrArg _ ih
def Gf:bE:=fun us M Q=>∃ (cs:List Str) (tls:List Tl),us=[dP cs tls]/\lW cs tls/\Q (.lst ((bB cs tls).map gZ)) M
theorem Dh (F:cI K "pass_leads" "pass_leads" qX f fd) (hm:mg "pass_leads"=some (.ref f)) (bA:mg "len"=none) (gE:mg "range"=none) (dB:mg "enumerate"=none) (wL:Callee P w K mg base 1 "is_pass" DM []) (nW:Callee P w K mg base 1 "lower" qN []):Callee P w K mg base 2 "pass_leads" Gf []:=by
 refine bQ F hm dC (CA fun _ _ _ _ _ _ _=>rfl) (aE (aR 1 dC.nd (aP (uv 0) aO))
 (aE (qL 2 dC.nd false ["tile","classes"] 1 [1] (eA (aP (uv 0) aO)) (aX (k:=1) 0 (by dsimp only [bZ];decide +kernel)) (yH (Bi (aK wL (aA (uv 0) aB)))) (bN (aA (pA (uv 1) (aA (aP (aP (uv 0) aO) aO) aB)) (aA (pA (uv 1) (aA (aP (uv 0) aO) aB)) (aA (aP (uv 0) aO) aB)))))
 (aE (aR 3 dC.nd (cG (own:=true) aB))
 (aE (eI (tO gE (aA (fB eC bA (aA (uv 1) aB)) aB)) (aX (k:=1000) 4 dC.nd)
 (aE (aR 5 dC.nd (gX (own:=true) (cG (own:=true) (aA lX aB)) (fB eC bA (aA (uv 1) aB))))
 (aE (tM aO (uv 5) (uv 4))
 (aE (HW (eI (tO gE (aA (kE (fB eC bA (aA (uv 1) aB)) aO) aB)) (aX (k:=1000) 6 dC.nd)
 (aJ (eI (eA (uv 2)) (lZ (n:=3) (bV (aX (k:=1000) 7 dC.nd) (bV (aX (k:=1000) 8 dC.nd) (bV (aX (k:=1000) 9 dC.nd) kJ))))
 (aJ (cF (cB t6 (aP (uv 5) (uv 7)) lX)
 (aJ (dM (aK nW (aA (uv 5) (aA (uv 8) (aA (cQ (own:=false) (aP (uv 5) (uv 7)) (uv 9)) aB))))))
 bO))))))
 (aJ (dM (xV (uv 3) (aA (nY false ["to","price","start"] 2 [4] (Dd dB (aA (uv 5) aB)) (lZ (n:=2) (bV (aX (k:=2) 0 (by dsimp only [bZ];decide +kernel)) (bV (aX (k:=2) 1 (by dsimp only [bZ];decide +kernel)) kJ))) (yH (q8.pt (AS (cB t6 (uv 1) lX) (yI (cB yY (uv 0) (uv 2)))))) (bN (aA (uv 2) (aA (uv 0) (aA (uv 1) aB))))) aB))))))))
 (aJ (bC (uv 3))))))) ?_
 rintro us M Q ⟨cs,tls,rfl,hT,q⟩;refine ⟨rfl,?_⟩;have hc6:=hT.cls.len;have ht10:=hT.len;refine aH fun V hV=>?_;simp! only [aY,hName,dP,aW];subst hV;refine aH fun V hV=>?_;simp only [aY,hName];refine xC (S:=⟨none,tls.map Tl.toU⟩) (M1:=M) (tls.map fun t=>(i9 cs t).map gZ) (fun R r=>by simp! only [true_and];exact r) (by simp) (by rw [List.length_map];exact small (by omega)) (by intro a e;cases e) (fun i x z hx hz M' _ R r=>?_) ?_
 ·rw [List.getElem?_map] at hx hz
  cases ht:tls[i]? with
  | none=>rw [ht] at hx;cases hx
  | some t =>
   rw [ht] at hx hz;cases hx;cases hz;have r:R (Option.map gZ (i9 cs t)) M':=r;have hX:=hT.all t (List.mem_of_getElem? ht);simp! only [hName];refine ⟨t,rfl,?_⟩;have hc:=hX.cost
   cases hp:t.k.pt with
   | hole c =>
    have e1:i9 cs t=some (eY cs c,eY cs t.k.cls,t.k.cost.toNat):=by unfold i9;rw [hp]
    rw [e1] at r;simp! only [Pt.isHole,Tl.toU,hp,Pt.toU,BN];refine ⟨⟨_,rfl⟩,wU (hX.hol c (by rw [hp];exact List.mem_singleton.mpr rfl)) ⟨⟨_,rfl⟩,wU hX.cls ?_⟩⟩;have e2:U.int t.k.cost=U.int ((t.k.cost.toNat:Nat):Int):=by rw [Int.toNat_of_nonneg hc.1]
    rw [e2];exact r
   | any=>simp! only [Pt.isHole];have e1:i9 cs t=none:=(by unfold i9;rw [hp]);rw [e1] at r;exact r
   | fr l h=>simp! only [Pt.isHole];have e1:i9 cs t=none:=(by unfold i9;rw [hp]);rw [e1] at r;exact r
   | turn a=>simp! only [Pt.isHole];have e1:i9 cs t=none:=(by unfold i9;rw [hp]);rw [e1] at r;exact r
   | two o a b=>simp! only [Pt.isHole];have e1:i9 cs t=none:=(by unfold i9;rw [hp]);rw [e1] at r;exact r
 have est:(tls.map fun t=>(i9 cs t).map gZ).filterMap id=(m4 cs tls).map gZ:=by
  unfold m4
  clear ht10 hT q
  induction tls with
  | nil=>rfl
  | cons t l ih =>
   rw [List.map_cons,List.filterMap_cons,List.filterMap_cons];simp only [id]
   cases h:i9 cs t with
   | none=>simp only [Option.map_none];exact ih
   | some y=>simp only [Option.map_some,List.map_cons];exact congrArg _ ih
 rw [est];simp only [i7];have hin:=Nn hT;have hsl:(m4 cs tls).length<=10:=Nat.le_trans (List.length_filterMap_le _ _) ht10;subst hV;refine aH fun V hV=>?_;simp! only [aY,hName];refine fun p hp=>?_;subst hV;refine aH fun V hV=>?_;generalize hst:m4 cs tls=st at *
 let acc:Nat->List T3:=fun k=>(List.range k).flatMap fun s=>jD s (xY st (cs.length - 1) (iT cs.length s))
 refine eP (S:=⟨none,dO 0 cs.length⟩) (M1:=mup M p (.lst [])) (fun R r=>by
   simp! only [List.length_map]
   exact ⟨by omega,by omega,by rw [Int.toNat_natCast];exact r⟩)
  (fun i τ' M'=>∃ (e4 e5 e6 e7 e8 e9:Option U),τ'=[some (dP cs tls),some (aW cs),some (.lst (st.map gZ)),some (.ref p),e4,e5,e6,e7,e8,e9]/\Sub M M'/\M' p=some (.lst ((acc i).map gZ))/\i<=cs.length)
  ⟨none,none,none,none,none,none,rfl,(Sub.refl M).mup hp,aD,by omega⟩ (fun i τ' M' _=>fun a e=>by cases e) ?_ ?_
 ·rintro i v τ' M' hi ⟨e4,e5,e6,e7,e8,e9,rfl,hsub,hMp,_⟩
  obtain ⟨rfl,hic⟩:=m6 hi;rw [show (0:Int) + (i:Int)=(i:Int) by omega];simp! only [hName];refine aH fun V2 hV2=>?_;simp! only [aY,hName,aW,List.length_map];refine fun t1 ht1=>?_;refine ⟨by omega,by omega,by rw [Int.toNat_natCast];exact small (by omega),?_⟩;rw [Int.toNat_natCast,xD];refine fun r hr=>?_;have hpt:p≠t1:=fun z=>by rw [<- z,hMp] at ht1;cases ht1
  have hpr:p≠r:=fun z=>by rw [<- z,aF hpt,hMp] at hr;cases hr
  have htr:t1≠r:=fun z=>by rw [<- z,aD] at hr;cases hr
  have hMr:M' r=none:=by rw [aF htr.symm] at hr;exact hr
  subst hV2;refine aH fun V2 hV2=>?_;simp! only [oV,kY,List.length_replicate];refine ⟨i,Bw hic,?_⟩;rw [show (U.int 0)=U.int ((0:Nat):Int) from rfl,E8];generalize hM1:mup M' t1 (.lst [U.non])=M1 at *
  have hsub1:Sub M M1:=by rw [<- hM1];exact hsub.mup (by
   cases q1:M t1 with
   | none=>rfl
   | some mo=>rw [hsub t1 mo q1] at ht1;cases ht1)
  have hM1p:M1 p=some (.lst ((acc i).map gZ)):=by rw [<- hM1,aF hpt];exact hMp
  have e0:(List.replicate cs.length none).set i (some 0)=iT cs.length i:=rfl;rw [e0];subst hV2;refine aH fun V2 hV2=>?_;show D5 _ _ _ _;unfold D5
  refine eP (S:=⟨none,dO 0 (cs.length - 1)⟩) (M1:=mup M1 r (.lst (bG (iT cs.length i)))) (fun R r=>by
    simp! only [List.length_map]
    exact ⟨by omega,by omega,by rw [show ((cs.length:Int) - 1).toNat=cs.length - 1 by omega];exact r⟩)
   (fun j τ' M'=>∃ (e6 e7 e8 e9:Option U),τ'=[some (dP cs tls),some (aW cs),some (.lst (st.map gZ)),some (.ref p),some (.int (i:Int)),some (.ref r),e6,e7,e8,e9]/\M'=mup M1 r (.lst (bG (xY st j (iT cs.length i)))))
   ⟨e6,e7,e8,e9,rfl,rfl⟩ (fun i τ' M' _=>fun a e=>by cases e) ?_ ?_
  ·rintro j v τ' M' hj ⟨e6,e7,e8,e9,rfl,rfl⟩
   obtain ⟨rfl,hjc⟩:=m6 hj;simp! only [hName];generalize hg:xY st j (iT cs.length i)=l0;have hl0:l0.length=cs.length:=by rw [<- hg,tK,iT,List.length_set,List.length_replicate]
   refine eP (S:=⟨none,st.map gZ⟩) (M1:=mup M1 r (.lst (bG l0))) (fun R r=>by simp! only [true_and];exact r)
    (fun k τ' M'=>∃ (e6 e7 e8 e9:Option U),τ'=[some (dP cs tls),some (aW cs),some (.lst (st.map gZ)),some (.ref p),some (.int (i:Int)),some (.ref r),e6,e7,e8,e9]/\M'=mup M1 r (.lst (bG ((st.take k).foldl j7 l0))))
    ⟨_,e7,e8,e9,rfl,rfl⟩ (fun i τ' M' _=>fun a e=>by cases e) ?_ ?_
   ·rintro k v τ' M' hk ⟨e6,e7,e8,e9,rfl,rfl⟩
    rw [List.getElem?_map] at hk
    cases hx:st[k]? with
    | none=>rw [hx] at hk;cases hk
    | some x =>
     rw [hx] at hk;cases hk;obtain ⟨h1,h2⟩:=hin x (List.mem_of_getElem? hx)
     have htk:(st.take (k + 1)).foldl j7 l0=j7 ((st.take k).foldl j7 l0) x:=by
      rw [List.take_add_one,hx];simp [List.foldl_append]
     rw [htk];have hll:((st.take k).foldl j7 l0).length=cs.length:=by rw [oC,hl0]
     generalize (st.take k).foldl j7 l0=l at *;obtain ⟨v,hv⟩:∃ v,l[x.1]?=some v:=⟨_,List.getElem?_eq_getElem (by omega)⟩;have hat:=vR hv;simp! only [kO,j5,mN,hName,gZ];refine bX fun A B hA hB=>?_
     cases v with
     | none =>
      simp! only [hat,oN];subst hB;simp only [cE];rw [Ly hv];exact ⟨_,_,_,_,rfl,rfl⟩
     | some n =>
      simp! only [hat,oN];subst hA;simp! only [eK,hat,oN];refine ⟨r,l,x.2.1,n + x.2.2,by push_cast;rfl,aD,by omega,?_⟩;rw [aZ,L6 hv];exact ⟨_,_,_,_,rfl,rfl⟩
   ·rintro τ' M' ⟨e6,e7,e8,e9,rfl,rfl⟩
    refine ⟨_,_,_,_,rfl,?_⟩;show mup M1 r (.lst (bG ((st.take (st.map gZ).length).foldl j7 l0)))=_;rw [List.length_map,List.take_length,<- hg];rfl
  ·rintro τ' M' ⟨e6,e7,e8,e9,rfl,rfl⟩
   rw [lL];generalize hg:xY st (cs.length - 1) (iT cs.length i)=l;have hll:l.length=cs.length:=by rw [<- hg,tK,iT,List.length_set,List.length_replicate]
   have hM1r:M1 r=none:=by rw [<- hM1,aF htr.symm];exact hMr
   refine ⟨_,M1,JK (i:=5) (a:=r) (u:=.lst (bG l)) ((Sub.refl M1).mup hM1r) (fun K H rm st=>mR rm aD hM1r st) rfl,?_⟩;show V2 _ _;subst hV2;simp! only [eK,hM1p];refine ⟨⟨_,bJ hM1p⟩,?_⟩;refine xC (S:=⟨none,numbered (bG l)⟩) (M1:=M1) (l.zipIdx.map fun p=>Eg i p.1 p.2) (fun R r=>by simp! only [true_and];exact r) (by simp [kX,kY]) (by rw [kX,kY];exact small (by omega)) (by intro a e;cases e) (fun k x z hx hz M' _ R r=>?_) ?_
   ·obtain ⟨u,hu,rfl⟩:=nR hx
    rw [bG,List.getElem?_map] at hu
    cases hv:l[k]? with
    | none=>rw [hv] at hu;cases hu
    | some v =>
     rw [hv] at hu;cases hu;rw [List.getElem?_map,List.getElem?_zipIdx,hv] at hz;simp only [Option.map_some,Option.some.injEq,Nat.zero_add] at hz;subst hz;simp! only [kO,j5,mN,hName]
     cases v with
     | none =>
      simp! only [oN,Eg,rX,Option.map_none] at r ⊢;exact r
     | some n =>
      simp! only [oN,Eg,rX] at r ⊢
      by_cases hk:k=i
      ·subst hk
       simp! only [Option.map_none] at r ⊢;exact r
      ·have hk':¬ (k:Int)=(i:Int):=by omega
       rw [if_neg hk] at r;simp! only [decide_eq_false hk'];exact r
   ·rw [Mm]
    simp! only [hM1p];have hac:(acc i).length<=i * cs.length:=by have:=CI cs tls i;rw [hst] at this;exact this
    have hlo:(jD i l).length<=cs.length:=by have:=D6 (s:=i) (l:=l);omega
    have hmul:i * cs.length<=36:=by
     have h1:i<=6:=by omega
     exact Nat.le_trans (Nat.mul_le_mul h1 hc6) (by decide)
    refine ⟨by rw [List.length_map,List.length_map];exact small (by omega),?_⟩;refine ⟨_,_,_,_,_,_,rfl,?_,?_,by omega⟩
    ·exact fun b mo e=>by
      have hb:b≠p:=fun z=>by rw [z,hp] at e;cases e
      rw [aF hb];exact hsub1 b mo e
    ·first | rw [aD,<- List.map_append] | rw [<- List.map_append]
     have:acc (i + 1)=acc i++jD i l:=by
      show (List.range (i + 1)).flatMap _=_;rw [List.range_succ,List.flatMap_append,List.flatMap_cons,List.flatMap_nil,List.append_nil,hg]
     rw [this]
 ·rintro τ' M' ⟨e4,e5,e6,e7,e8,e9,rfl,hsub,hMp,_⟩
  rw [lL] at hMp;subst hV;simp! only [bU];have e:bB cs tls=acc cs.length:=by unfold bB;rw [hst]
  rw [e] at q;exact ⟨_,M,hsub,.inr ⟨p,_,rfl,hMp,hp,rfl⟩,q⟩
def eG (cs:List Str) (ps:List Pt):List U:=cs.map U.str++ps.map Pt.toU
def qJ (cs:List Str) (ps:List Pt):List PyData:=cs.map PyData.str++ps.map bP
theorem Es (ps:List Pt):∀ cs:List Str,cN (eG cs ps)=some (qJ cs ps)
 | []=>by simpa [eG,qJ] using G2 ps
 | s :: cs=>by
  have h:cN (cs.map U.str++ps.map Pt.toU)=some (qJ cs ps):=Es ps cs;simp only [eG,List.map_cons,List.cons_append,cN,toD,h];rfl
theorem Ed {ps:List Pt} (hp:∀ p∈ps,g9 p):∀ cs:List Str,(∀ s∈cs,PyData.strOk s=true)->PyData.canLayAll0 (qJ cs ps)=true
 | [],_=>by simpa [qJ] using K6 ps hp
 | s :: cs,h=>by
  have ih:PyData.canLayAll0 (cs.map PyData.str++ps.map bP)=true:=Ed hp cs fun x hx=>h x (List.mem_cons_of_mem _ hx);simp only [qJ,List.map_cons,List.cons_append,PyData.canLayAll0,PyData.canLay0,h s List.mem_cons_self,ih,Bool.and_self]
def Ks (ds:List PyData) (d:PyData):Nat:=ds.findIdx fun e=>PyData.eqv e d
theorem KQ {ds:List PyData} {d:PyData} (h:∃ e∈ds,PyData.eqv e d=true):Ks ds d < ds.length/\(∃ e,ds[Ks ds d]?=some e/\PyData.eqv e d=true)/\∀ m e,m < Ks ds d->ds[m]?=some e->PyData.eqv e d=false:=by
 have hl:Ks ds d < ds.length:=List.findIdx_lt_length_of_exists h;refine ⟨hl,⟨_,List.getElem?_eq_getElem hl,List.findIdx_getElem (w:=hl) (p:=fun e=>PyData.eqv e d)⟩,fun m e hm hz=>?_⟩;have hml:m < ds.length:=by omega
 rw [List.getElem?_eq_getElem hml] at hz
 have:=List.not_of_lt_findIdx (p:=fun e=>PyData.eqv e d) hm
 rw [<- Option.some.inj hz];simpa using this
inductive Cl where
 | c (s:Str) | p (q:Pt)
def Cl.U:Cl->U
 | .c s=>.str s
 | .p q=>q.toU
def Cl.D:Cl->PyData
 | .c s=>.str s
 | .p q=>bP q
def AL (cs:List Str) (ps:List Pt):Cl->Prop
 | .c s=>s∈cs/\PyData.strOk s=true
 | .p q=>g9 q/\∃ e∈ps,PyData.eqv (bP e) (bP q)=true
theorem RM (c:Cl):sX M c.U=some c.D:=by
 cases c with
 | c s=>rfl
 | p q =>
  obtain ⟨z,r,e,_⟩:=xA q;show sX M q.toU=some (bP q);rw [<- zE q,e];rfl
variable {c:Cl} {ps:List Pt}
theorem AL.in (h:AL cs ps c):(∃ e∈qJ cs ps,PyData.eqv e c.D=true)/\c.D.canLay0=true/\c.D.depth<=60:=by
 cases c with
 | c s =>
  have hl:(PyData.str s).canLay0=true:=by simp only [PyData.canLay0];exact h.2
  exact ⟨⟨.str s,List.mem_append_left _ (List.mem_map.mpr ⟨s,h.1,rfl⟩),SeqAt.eqv_refl _ hl⟩,hl,by simp [Cl.D,PyData.depth]⟩
 | p q =>
  obtain ⟨hf,e,he,hq⟩:=h;have hd:=tI q
  have:=hf.2
  exact ⟨⟨bP e,List.mem_append_right _ (List.mem_map.mpr ⟨e,he,rfl⟩),hq⟩,uL q hf.1,by show (bP q).depth<=60;omega⟩
def uR (cs:List Str) (ps:List Pt) (c:Cl):Nat:=Ks (qJ cs ps) c.D
theorem Ai (h:AL cs ps c):uR cs ps c < cs.length + ps.length:=by
 have:=(KQ h.in.1).1
 simpa [uR,qJ] using this
theorem JJ {x:U} (hv:view M x=.lst (eG cs ps)) (hcs:∀ s∈cs,PyData.strOk s=true) (hps:∀ p∈ps,g9 p) (hc:AL cs ps c) (q:Q (.int (uR cs ps c:Nat)) M):BA x [c.U] M Q:=by
 obtain ⟨h1,h2,h3⟩:=hc.in;obtain ⟨_,h4,h5⟩:=KQ h1;exact ⟨_,_,_,_,_,hv,rfl,Es ps cs,RM c,Ed hps cs hcs,h2,h3,h4,h5,q⟩
def oQ:Pt->Cl
 | .hole c=>.c c
 | p=>.p p
abbrev R3:=Nat × Nat × List Nat
abbrev L3:=Nat × Nat × Pt
def hZ (r:R3):U:=.tup [.int (r.1:Int),.int (r.2.1:Int),.lst (r.2.2.map fun (n:Nat)=>.int (n:Int))]
def oX (r:L3):U:=.tup [.int (r.1:Int),.int (r.2.1:Int),r.2.2.toU]
def tR:Pt->Option Nat
 | .turn _=>some 0
 | .two .sum _ _=>some 1
 | .two .less _ _=>some 2
 | .two .by_ _ _=>some 3
 | _=>none
def sG (g:Nat->U):List (Key × U):=[(.inr "turn",g 0),(.inr "sum",g 1),(.inr "less",g 2),(.inr "by",g 3)]
variable {p:Pt}
theorem BV {k:Nat} (h:tR p=some k) (g:Nat->U):∃ z,p.toU=.tup (.str z :: p.parts.map Pt.toU)/\(cJ cY z).isSome=true/\dS (sG g) (.inr z)=some (g k)/\k < 4:=by
 cases p with
 | turn a=>cases h;exact ⟨_,rfl,by decide +kernel,rfl,by omega⟩
 | two o a b=>cases o <;> cases h <;> exact ⟨_,rfl,by decide +kernel,rfl,by omega⟩
 | _=>cases h
theorem Kc (h:tR p=none):p.leafy=true:=by
 cases p with
 | turn a=>cases h
 | two o a b=>cases o <;> cases h
 | _=>rfl
def Du (cs:List Str) (ps:List Pt) (price:Nat) (c:Cl) (p:Pt):R3:=(uR cs ps c,price,p.parts.map fun a=>uR cs ps (oQ a))
def Dm (cs:List Str) (ps:List Pt) (price:Nat) (c:Cl) (p:Pt):L3:=(uR cs ps c,price,p)
def Lc (C:Addr):bE:=fun us M Q=>∃ (x dx pc pl pd:Addr) (g:Nat->Addr) (cs:List Str) (ps:List Pt) (fs:List (Str × U)) (leaf:List L3) (sg:Nat->List R3) (c:Cl) (price:Nat) (p:Pt),
 us=[.ref x,c.U,.int (price:Int),p.toU]/\M x=some (.ins C dx fs)/\fs.lookup (Str.ofString "columns")=some (.ref pc)/\fs.lookup (Str.ofString "leaf_rules")=some (.ref pl)/\fs.lookup (Str.ofString "sign_rules")=some (.ref pd)/\fs.lookup (Str.ofString "wire")=none /\
 M pc=some (.lst (eG cs ps))/\M pl=some (.lst (leaf.map oX))/\M pd=some (.dK (sG fun k=>.ref (g k)))/\(∀ k,k < 4->M (g k)=some (.lst ((sg k).map hZ)))/\(∀ s∈cs,PyData.strOk s=true)/\(∀ q∈ps,g9 q)/\leaf.length < 10000/\(∀ k,(sg k).length < 10000) /\
 AL cs ps c/\(∀ a∈p.parts,AL cs ps (oQ a)) /\
 (tR p=none->Q .non (mup M pl (.lst ((leaf++[Dm cs ps price c p]).map oX))))/\∀ k,tR p=some k->Q .non (mup M (g k) (.lst ((sg k++[Du cs ps price c p]).map hZ)))
theorem rW (p:Pt):p.parts.length<=2:=by cases p <;> simp [Pt.parts]
theorem Kz (a:Pt):∃ z r,a.toU=.tup (.str z :: r)/\(decide (z=Str.ofString "at")=true->dH (U.str z :: r) 1=some (oQ a).U)/\(decide (z=Str.ofString "at")=false->a.toU=(oQ a).U):=by
 obtain ⟨z,r,e,hz⟩:=rV a;refine ⟨z,r,e,fun h=>?_,fun h=>?_⟩
 ·rw [h] at hz
  cases a with
  | hole c=>cases e;rfl
  | _=>cases hz
 ·rw [h] at hz
  cases a with
  | hole c=>cases hz
  | _=>rfl
variable {C:Addr}
theorem Pe (F:cI K "wire" "Wiring.wire" iP f fd) (hmt:Meth K C "wire" f) (c_Wiring:L2.fT K C) (n_columns:bL K C "columns") (n_leaf_rules:bL K C "leaf_rules") (n_sign_rules:bL K C "sign_rules") (fO:kR P w K d cY) (fF:mg "SIGNS"=some (.ref d)) (dD:Callee P w K mg base 1 "parts_of" j0 []):qK P w K mg base 2 C "wire" (Lc C):=by
 refine Bc F hmt oB (Sn fun _ _ _ _ _ _ _ _ _ _=>rfl) (fun us M Q h=>by obtain ⟨_,_,_,_,_,_,_,_,_,_,_,_,_,_,rfl,_⟩:=h;rfl) (aE (aR 4 oB.nd (Cy (cH c_Wiring n_columns (uv 0)) (aA (uv 1) aB)))
 (aJ (cF (cB (GD fO) (aP (uv 3) aO) (A5 fF))
 (aE (qL 5 oB.nd false ["part"] 1 [] (eA (aK dD (aA (uv 3) aB))) (aX (k:=1) 0 (by dsimp only [bZ];decide +kernel)) lH (Dt (cB lI (aP (uv 0) aO) gL) (aP (uv 0) aO) (uv 0)))
 (aJ (dM (jW (B0 false Iq (cH c_Wiring n_sign_rules (uv 0)) (aP (uv 3) aO)) (aA (bN (aA (uv 4) (aA (uv 2) (aA (nY false ["draw","self"] 1 [0] (eA (uv 5)) (aX (k:=1) 0 (by dsimp only [bZ];decide +kernel)) lH (Cy (cH c_Wiring n_columns (uv 1)) (aA (uv 0) aB))) aB)))) aB)))))
 (aJ (dM (jW (cH c_Wiring n_leaf_rules (uv 0)) (aA (bN (aA (uv 4) (aA (uv 2) (aA (uv 3) aB)))) aB))))))) ?_
 rintro us M Q ⟨x,dx,pc,pl,pd,g,cs,ps,fs,leaf,sg,c,price,p,rfl,hx,l1,l2,l3,l4,hpc,hpl,hpd,hg,hcs,hps,hleaf,hsg,hc,hparts,q1,q2⟩
 have f1:cK C (Str.ofString "columns") (.ref x) M=some (.ref pc):=(bS hx).trans l1
 have f2:cK C (Str.ofString "leaf_rules") (.ref x) M=some (.ref pl):=(bS hx).trans l2
 have f3:cK C (Str.ofString "sign_rules") (.ref x) M=some (.ref pd):=(bS hx).trans l3
 refine aH fun V hV=>?_;simp! only [aY,hName,fX,f1];refine ⟨⟨_,bJ hpc⟩,JJ (bJ hpc) hcs hps hc ?_⟩;subst hV;refine bX fun A B hA hB=>?_
 cases hsx:tR p with
 | none =>
  obtain ⟨z,r,e,hz,_⟩:=xA p;rw [Kc hsx] at hz;have hz':(cJ cY z).isSome=false:=hz;simp! only [e,dF,hz'];subst hB;simp! only [eK,fX,f2,hpl];refine ⟨⟨_,bJ hpl⟩,by rw [List.length_map];exact big (by omega),?_⟩
  have:=q1 hsx
  rw [List.map_append] at this;exact aU this
 | some k =>
  obtain ⟨z,e,hz,hv,hk⟩:=BV hsx (fun k=>U.ref (g k));simp! only [e,dF,hz];subst hA;refine aH fun V hV=>?_;simp only [aY,hName]
  refine jY (S:=⟨none,p.parts.map Pt.toU⟩) (M1:=M) (p.parts.map fun a=>(oQ a).U) (fun R r=>by
    simp! only [e]
    exact ⟨z,_,true,rfl,hz,by rw [List.length_map];have:=rW p;omega,r⟩) (by simp) (by rw [List.length_map];exact small (by have:=rW p;omega)) (by intro a e;cases e) (fun i xx y hxx hy M' _ R r=>?_) ?_
  ·rw [List.getElem?_map] at hxx hy
   cases ha:p.parts[i]? with
   | none=>rw [ha] at hxx;cases hxx
   | some a =>
    rw [ha] at hxx hy;cases hxx;cases hy;obtain ⟨z2,r2,e2,h1,h2⟩:=Kz a;simp! only [hName,e2]
    cases hd:decide (z2=Str.ofString "at") with
    | true=>simp! only [h1 hd];exact r
    | false=>simp! only [true_and];rw [<- e2,h2 hd];exact r
  ·simp only [i7]
   subst hV;have hkp:=hg k hk;simp! only [eK,fX,f3,yB,yR,Fb,hpd,xI,e,hv];refine ⟨⟨_,bJ hkp⟩,?_⟩;refine jY (S:=⟨none,p.parts.map fun a=>(oQ a).U⟩) (M1:=M) ((p.parts.map fun a=>uR cs ps (oQ a)).map fun (n:Nat)=>U.int (n:Int)) (fun R r=>by simp! only [true_and];exact r) (by simp) (by rw [List.length_map];exact small (by have:=rW p;omega)) (by intro a e;cases e) (fun i xx y hxx hy M' hS R r=>?_) ?_
   ·rw [List.getElem?_map] at hxx
    rw [List.map_map,List.getElem?_map] at hy
    cases ha:p.parts[i]? with
    | none=>rw [ha] at hxx;cases hxx
    | some a =>
     rw [ha] at hxx hy;cases hxx;cases hy
     have f1':cK C (Str.ofString "columns") (.ref x) M'=some (.ref pc):=(bS (hS x _ hx)).trans l1
     have hpc':=hS pc _ hpc;simp! only [hName,fX,f1'];exact ⟨⟨_,bJ hpc'⟩,JJ (bJ hpc') hcs hps (hparts a (List.mem_of_getElem? ha)) r⟩
   ·simp! only [hkp]
    refine ⟨by rw [List.length_map];exact big (by have:=hsg k;omega),?_⟩
    have:=q2 k hsx
    rw [List.map_append] at this;exact aU this
theorem vC (p:Pt):p∈gJ p:=by cases p <;> simp [gJ]
theorem mH {l:List α} {x:α} (h:x∈l.tail):x∈l:=by
 cases l with
 | nil=>cases h
 | cons a l=>exact List.mem_cons_of_mem _ h
theorem uQ (h:a∈p.parts):∀ x∈gJ a,x∈(gJ p).tail:=fun x hx=>by
 cases p with
 | turn b=>cases List.mem_singleton.mp h;exact hx
 | two o b c =>
  have h':a=b\/a=c:=by simpa [Pt.parts] using h
  rcases h' with rfl | rfl
  ·exact List.mem_append_left _ hx
  ·exact List.mem_append_right _ hx
 | _=>cases h
theorem pE:∀ {p q:Pt},q∈gJ p->∀ a∈q.parts,a∈(gJ p).tail
 | .hole c,q,h,a,ha=>by cases List.mem_singleton.mp h;cases ha
 | .any,q,h,a,ha=>by cases List.mem_singleton.mp h;cases ha
 | .fr l h',q,h,a,ha=>by cases List.mem_singleton.mp h;cases ha
 | .turn b,q,h,a,ha=>by
  rcases List.mem_cons.mp h with rfl | h
  ·exact uQ ha a (vC a)
  ·exact mH (pE h a ha)
 | .two o b c,q,h,a,ha=>by
  rcases List.mem_cons.mp h with rfl | h
  ·exact uQ ha a (vC a)
  ·rcases List.mem_append.mp h with h | h
   ·exact List.mem_append_left _ (mH (pE h a ha))
   ·exact List.mem_append_right _ (mH (pE h a ha))
theorem zB:∀ {p q:Pt},q∈gJ p->∀ s∈q.hol,s∈p.hol
 | .hole c,q,h,s,hs=>by cases List.mem_singleton.mp h;exact hs
 | .any,q,h,s,hs=>by cases List.mem_singleton.mp h;exact hs
 | .fr l h',q,h,s,hs=>by cases List.mem_singleton.mp h;exact hs
 | .turn b,q,h,s,hs=>by
  rcases List.mem_cons.mp h with rfl | h
  ·exact hs
  ·exact zB (p:=b) h s hs
 | .two o b c,q,h,s,hs=>by
  rcases List.mem_cons.mp h with rfl | h
  ·exact hs
  ·rcases List.mem_append.mp h with h | h
   ·exact List.mem_append_left _ (zB (p:=b) h s hs)
   ·exact List.mem_append_right _ (zB (p:=c) h s hs)
variable {acc:List Pt} {q:Pt}
theorem JT {e:Pt} (h:e∈acc):e∈c7 acc q:=by
 unfold c7;split
 ·exact h
 ·split
  ·exact h
  ·exact List.mem_append_left _ h
theorem CP:∀ (l:List Pt) {acc:List Pt} {e:Pt},e∈acc->e∈l.foldl c7 acc
 | [],_,_,h=>h
 | q :: l,_,_,h=>CP l (JT h)
theorem Lv (h:q.isHole=false) (ok:q.ok):∃ e∈c7 acc q,PyData.eqv (bP e) (bP q)=true:=by
 cases k:acc.any (fun e=>PyData.eqv (bP e) (bP q)) with
 | true =>
  rw [GP h k];obtain ⟨e,he,hq⟩:=List.any_eq_true.mp k;exact ⟨e,he,hq⟩
 | false =>
  rw [EY h k];exact ⟨q,List.mem_append_right _ (List.mem_singleton.mpr rfl),SeqAt.eqv_refl _ (uL q ok)⟩
theorem D7:∀ (l:List Pt) (acc:List Pt) (q:Pt),q∈l->q.isHole=false->q.ok->∃ e∈l.foldl c7 acc,PyData.eqv (bP e) (bP q)=true
 | [],_,_,h,_,_=>by cases h
 | x :: l,acc,q,h,hh,ok=>by
  rcases List.mem_cons.mp h with rfl | h
  ·obtain ⟨e,he,hq⟩:=Lv (acc:=acc) hh ok
   exact ⟨e,CP l he,hq⟩
  ·exact D7 l _ q h hh ok
theorem CM:∀ (l acc:List Pt) (e:Pt),e∈l.foldl c7 acc->e∈acc\/(e∈l/\e.isHole=false)
 | [],_,_,h=>.inl h
 | x :: l,acc,e,h=>by
  rcases CM l _ e h with h | h
  ·unfold c7 at h
   split at h
   ·exact .inl h
   ·rename_i hx
    split at h
    ·exact .inl h
    ·rcases List.mem_append.mp h with h | h
     ·exact .inl h
     ·cases List.mem_singleton.mp h;exact .inr ⟨List.mem_cons_self,by simpa using hx⟩
  ·exact .inr ⟨List.mem_cons_of_mem _ h.1,h.2⟩
section
variable {cs:List Str} {tls:List Tl}
theorem A6 {e:Pt} (h:e∈aN tls):∃ t∈tls,e∈eF t/\e.isHole=false:=by
 rcases CM _ [] e h with h | ⟨h,hh⟩
 ·cases h
 ·obtain ⟨t,ht,he⟩:=List.mem_flatMap.mp h
  exact ⟨t,ht,he,hh⟩
theorem yF (hT:lW cs tls) {t:Tl} (ht:t∈tls) {a:Pt} (ha:a∈eF t):AL cs (aN tls) (oQ a):=by
 have hX:=hT.all t ht;have hf:=xF hT.tab t ht a (mH ha)
 cases hh:a.isHole with
 | true =>
  cases a with
  | hole c =>
   have hc:=hX.hol c (zB (mH ha) c (List.mem_singleton.mpr rfl));exact ⟨hc,hT.cls.ok c hc⟩
  | _=>cases hh
 | false =>
  have e:oQ a=.p a:=by
   cases a with
   | hole c=>cases hh
   | _=>rfl
  rw [e];exact ⟨hf,D7 _ [] a (List.mem_flatMap.mpr ⟨t,ht,ha⟩) hh hf.1⟩
theorem Bg (hT:lW cs tls):∀ p∈aN tls,g9 p:=by
 have h:=(DK hT.tab tls.length).1;rw [List.take_length] at h;exact h
theorem CO (hT:lW cs tls):(aN tls).length<=640:=by
 have h:=(DK hT.tab tls.length).2;rw [List.take_length] at h;exact h
end
abbrev WT:=List L3 × (Nat->List R3)
def addW (cs:List Str) (ps:List Pt) (st:WT) (c:Cl) (price:Nat) (p:Pt):WT:=match tR p with
 | none=>(st.1++[Dm cs ps price c p],st.2)
 | some k=>(st.1,fun j=>if j=k then st.2 j++[Du cs ps price c p] else st.2 j)
def nH (cs:List Str) (ps:List Pt) (st:WT) (t:Tl):WT:=if t.k.pt.isHole then st else addW cs ps st (.c t.k.cls) t.k.cost.toNat t.k.pt
def oF (cs:List Str) (ps:List Pt) (st:WT) (p:Pt):WT:=addW cs ps st (.p p) 0 p
def gB (cs:List Str) (tls:List Tl):WT:=(aN tls).foldl (oF cs (aN tls)) (tls.foldl (nH cs (aN tls)) ([],fun _=>[]))
def zI (cs:List Str) (lds:List T3) (pc pl pd:Addr):List (Str × U):=[(Str.ofString "classes",aW cs),(Str.ofString "columns",.ref pc),(Str.ofString "leads",.lst (lds.map gZ)),(Str.ofString "leaf_rules",.ref pl),(Str.ofString "sign_rules",.ref pd)]
def fA (cs:List Str) (ps:List Pt) (lds:List T3) (st:WT):List (Str × U):=[(Str.ofString "classes",aW cs),(Str.ofString "columns",.lst (eG cs ps)),(Str.ofString "leads",.lst (lds.map gZ)),(Str.ofString "leaf_rules",.lst (st.1.map oX)),(Str.ofString "sign_rules",B5 (sG fun k=>.lst ((st.2 k).map hZ)))]
structure wK (M:aG) (C x dx pc pl pd:Addr) (g:Nat->Addr) (cs:List Str) (ps:List Pt) (lds:List T3) (st:WT) (M':aG):Prop where
 ins:M' x=some (.ins C dx (zI cs lds pc pl pd))
 col:M' pc=some (.lst (eG cs ps))
 lf:M' pl=some (.lst (st.1.map oX))
 dic:M' pd=some (.dK (sG fun k=>.ref (g k)))
 rul:∀ k,k < 4->M' (g k)=some (.lst ((st.2 k).map hZ))
 old:∀ b mo,b≠x->M b=some mo->M' b=some mo
structure WD (M:aG) (pc pl pd:Addr) (g:Nat->Addr):Prop where
 pcl:pc≠pl
 gpc:∀ k,k < 4->g k≠pc
 gpl:∀ k,k < 4->g k≠pl
 gg:∀ j k,j < 4->k < 4->j≠k->g j≠g k
 nc:M pc=none
 nl:M pl=none
 nd:M pd=none
 ng:∀ k,k < 4->M (g k)=none
section
variable {M M':aG} {C x dx pc pl pd:Addr} {g:Nat->Addr} {cs:List Str} {ps:List Pt} {lds:List T3} {st:WT}
theorem wK.leaf (h:wK M C x dx pc pl pd g cs ps lds st M') (D:WD M pc pl pd g) (r:L3):wK M C x dx pc pl pd g cs ps lds (st.1++[r],st.2) (mup M' pl (.lst ((st.1++[r]).map oX))):=by
 have e1:x≠pl:=fun z=>by have a:=h.ins;rw [z,h.lf] at a;cases a
 have e2:pd≠pl:=fun z=>by have a:=h.dic;rw [z,h.lf] at a;cases a
 exact ⟨by rw [aF e1];exact h.ins,by rw [aF D.pcl];exact h.col,aD,by rw [aF e2];exact h.dic,fun k hk=>by rw [aF (D.gpl k hk)];exact h.rul k hk,
  fun b mo hb e=>by rw [aF (fun z=>by rw [z,D.nl] at e;cases e)];exact h.old b mo hb e⟩
theorem wK.sign (h:wK M C x dx pc pl pd g cs ps lds st M') (D:WD M pc pl pd g) (r:R3) {k:Nat} (hk:k < 4):wK M C x dx pc pl pd g cs ps lds (st.1,fun j=>if j=k then st.2 j++[r] else st.2 j) (mup M' (g k) (.lst ((st.2 k++[r]).map hZ))):=by
 have hg:=h.rul k hk;have e1:x≠g k:=fun z=>by have a:=h.ins;rw [z,hg] at a;cases a
 have e2:pd≠g k:=fun z=>by have a:=h.dic;rw [z,hg] at a;cases a
 refine ⟨by rw [aF e1];exact h.ins,by rw [aF (D.gpc k hk).symm];exact h.col,by rw [aF (D.gpl k hk).symm];exact h.lf,by rw [aF e2];exact h.dic,fun j hj=>?_,
  fun b mo hb e=>by rw [aF (fun z=>by rw [z,D.ng k hk] at e;cases e)];exact h.old b mo hb e⟩
 by_cases e:j=k
 ·subst e;rw [aD];simp only [if_true]
 ·rw [aF (D.gg j k hj hk e)];simp only [if_neg e];exact h.rul j hj
theorem PL:(zI cs lds pc pl pd).lookup (Str.ofString "columns")=some (.ref pc)/\(zI cs lds pc pl pd).lookup (Str.ofString "leaf_rules")=some (.ref pl)/\(zI cs lds pc pl pd).lookup (Str.ofString "sign_rules")=some (.ref pd)/\(zI cs lds pc pl pd).lookup (Str.ofString "wire")=none/\(zI cs lds pc pl pd).lookup (Str.ofString "classes")=some (aW cs):=⟨rfl,rfl,rfl,rfl,rfl⟩
end
def sZ (st:WT) (n:Nat):Prop:=st.1.length<=n/\∀ k,(st.2 k).length<=n
variable {st:WT} {pr:Nat}
theorem uB (h:sZ st n):sZ (addW cs ps st c pr p) (n + 1):=by
 unfold addW;split
 ·exact ⟨by simp only [List.length_append,List.length_cons,List.length_nil];have:=h.1;omega,fun k=>by have:=h.2 k;simp only;omega⟩
 ·refine ⟨by have:=h.1;simp only;omega,fun k=>?_⟩
  have:=h.2 k
  simp only;split
  ·simp only [List.length_append,List.length_cons,List.length_nil];omega
  ·omega
structure Eh (M:aG) (C x dx pc pl pd:Addr) (g:Nat->Addr) (cs:List Str) (ps:List Pt) (lds:List T3) (i:Nat) (M':aG):Prop where
 ins:M' x=some (.ins C dx (zI cs lds pc pl pd))
 col:M' pc=some (.lst (eG cs ps))
 lf:M' pl=some (.lst [])
 dic:M' pd=some (.dK ((sG fun k=>.ref (g k)).take i))
 rul:∀ k,k < i->M' (g k)=some (.lst [])
 old:∀ b mo,b≠x->M b=some mo->M' b=some mo
 ds:(∀ k,k < i->g k≠pc)/\(∀ k,k < i->g k≠pl)/\(∀ k,k < i->M (g k)=none)/\∀ j k,j < i->k < i->j≠k->g j≠g k
variable {x dx pc pl pd:Addr} {M':aG} {g:Nat->Addr} {lds:List T3}
theorem Eh.next {r:Addr} (W:Eh M C x dx pc pl pd g cs ps lds i M') (hMd:M pd=none) (hr:M' r=none) (hi:i < 4) :
  Eh M C x dx pc pl pd (fun k=>if k=i then r else g k) cs ps lds (i + 1) (mup (mup M' r (.lst [])) pd (.dK ((sG fun k=>U.ref (if k=i then r else g k)).take (i + 1)))):=by
 have er:x≠r:=fun z=>by rw [<- z,W.ins] at hr;cases hr
 have erd:pd≠r:=fun z=>by rw [<- z,W.dic] at hr;cases hr
 have erc:pc≠r:=fun z=>by rw [<- z,W.col] at hr;cases hr
 have erl:pl≠r:=fun z=>by rw [<- z,W.lf] at hr;cases hr
 have exd:x≠pd:=fun z=>by have a:=W.ins;rw [z,W.dic] at a;cases a
 have ecd:pc≠pd:=fun z=>by have a:=W.col;rw [z,W.dic] at a;cases a
 have eld:pl≠pd:=fun z=>by have a:=W.lf;rw [z,W.dic] at a;cases a
 have hMr:M r=none:=by
  cases h:M r with
  | none=>rfl
  | some mo=>rw [W.old r mo er.symm h] at hr;cases hr
 have hgr:∀ k,k < i->g k≠r:=fun k hk z=>by have a:=W.rul k hk;rw [z,hr] at a;cases a
 have hgd:∀ k,k < i->g k≠pd:=fun k hk z=>by have a:=W.rul k hk;rw [z,W.dic] at a;cases a
 refine ⟨by rw [aF exd,aF er];exact W.ins,by rw [aF ecd,aF erc];exact W.col,by rw [aF eld,aF erl];exact W.lf,aD,fun k hk=>?_,fun b mo hb e=>?_,fun k hk=>?_,fun k hk=>?_,fun k hk=>?_,fun j k hj hk hjk=>?_⟩
 ·by_cases e:k=i
  ·simp only [if_pos e];rw [aF erd.symm,aD]
  ·simp only [if_neg e];rw [aF (hgd k (by omega)),aF (hgr k (by omega))];exact W.rul k (by omega)
 ·rw [aF (fun z=>by rw [z,hMd] at e;cases e),aF (fun z=>by rw [z,hMr] at e;cases e)];exact W.old b mo hb e
 ·by_cases e:k=i
  ·simp only [if_pos e];exact erc.symm
  ·simp only [if_neg e];exact W.ds.1 k (by omega)
 ·by_cases e:k=i
  ·simp only [if_pos e];exact erl.symm
  ·simp only [if_neg e];exact W.ds.2.1 k (by omega)
 ·by_cases e:k=i
  ·simp only [if_pos e];exact hMr
  ·simp only [if_neg e];exact W.ds.2.2.1 k (by omega)
 ·by_cases e:j=i
  ·have e2:k≠i:=fun z=>hjk (e.trans z.symm)
   simp only [if_pos e,if_neg e2];exact (hgr k (by omega)).symm
  ·by_cases e2:k=i
   ·simp only [if_neg e,if_pos e2];exact hgr j (by omega)
   ·simp only [if_neg e,if_neg e2];exact W.ds.2.2.2 j k (by omega) (by omega) hjk
theorem wK.settle {τ:SU} (W:wK M C x dx pc pl pd g cs ps lds st M') (D:WD M pc pl pd g):Cv τ M' τ (mup M x (.ins C dx (fA cs ps lds st))):=by
 refine RV W.ins W.old fun K H ws rm stp r=>?_;have nx:∀ b,M b=none->b≠x->mup M x (.ins C dx (fA cs ps lds st)) b=none:=fun b hb hx=>by rw [aF hx];exact hb
 have xc:pc≠x:=fun z=>by have a:=W.ins;rw [<- z,W.col] at a;cases a
 have xl:pl≠x:=fun z=>by have a:=W.ins;rw [<- z,W.lf] at a;cases a
 have xd:pd≠x:=fun z=>by have a:=W.ins;rw [<- z,W.dic] at a;cases a
 have xg:∀ k,k < 4->g k≠x:=fun k hk z=>by have a:=W.ins;rw [<- z,W.rul k hk] at a;cases a
 have rd:aM K H (mup M x (.ins C dx (fA cs ps lds st))) (B5 (sG fun k=>.lst ((st.2 k).map hZ))) (.ref pd):=by
  obtain ⟨ws,h1,r⟩:=rm pd _ W.dic
  have r2:bI K H (mup M x (.ins C dx (fA cs ps lds st))) (sG fun k=>.lst ((st.2 k).map hZ)) ws:=F7 r rfl fun i p p' e1 e2=>by
   match i,e1,e2 with
   | 0,e1,e2=>cases e1;cases e2;exact ⟨rfl,fun x rx=>by rw [rx.ref];exact mR rm (W.rul 0 (by omega)) (nx _ (D.ng 0 (by omega)) (xg 0 (by omega))) stp⟩
   | 1,e1,e2=>cases e1;cases e2;exact ⟨rfl,fun x rx=>by rw [rx.ref];exact mR rm (W.rul 1 (by omega)) (nx _ (D.ng 1 (by omega)) (xg 1 (by omega))) stp⟩
   | 2,e1,e2=>cases e1;cases e2;exact ⟨rfl,fun x rx=>by rw [rx.ref];exact mR rm (W.rul 2 (by omega)) (nx _ (D.ng 2 (by omega)) (xg 2 (by omega))) stp⟩
   | 3,e1,e2=>cases e1;cases e2;exact ⟨rfl,fun x rx=>by rw [rx.ref];exact mR rm (W.rul 3 (by omega)) (nx _ (D.ng 3 (by omega)) (xg 3 (by omega))) stp⟩
   | i + 4,e1,e2=>cases e1
  obtain ⟨h2,h3⟩:=Ge r2;exact ⟨pd,ws.map (·.2),rfl,nx pd D.nd xd,⟨ws,.inl h1,by have:=congrArg (List.map fun k=>[k]) h2;simpa [List.map_map,Function.comp_def] using this,rfl⟩,h3⟩
 refine F7 r rfl fun i p p' e1 e2=>?_
 match i,e1,e2 with
 | 0,e1,e2=>cases e1;cases e2;exact ⟨rfl,fun v rv=>rv.stp stp⟩
 | 1,e1,e2=>cases e1;cases e2;exact ⟨rfl,fun v rv=>by rw [rv.ref];exact mR rm W.col (nx _ D.nc xc) stp⟩
 | 2,e1,e2=>cases e1;cases e2;exact ⟨rfl,fun v rv=>rv.stp stp⟩
 | 3,e1,e2=>cases e1;cases e2;exact ⟨rfl,fun v rv=>by rw [rv.ref];exact mR rm W.lf (nx _ D.nl xl) stp⟩
 | 4,e1,e2=>cases e1;cases e2;exact ⟨rfl,fun v rv=>by rw [rv.ref];exact rd⟩
 | i + 5,e1,e2=>cases e1
def B7 (C:Addr):bE:=fun us M Q=>∃ (x dx:Addr) (cs:List Str) (tls:List Tl),us=[.ref x,dP cs tls]/\M x=some (.ins C dx [])/\lW cs tls/\Q .non (mup M x (.ins C dx (fA cs (aN tls) (bB cs tls) (gB cs tls))))
theorem QD (F:cI K "__init__" "Wiring.__init__" iJ f fd) (hMk:Mk K C f) (hgl:mg "Wiring"=some (.ref C)) (c_Wiring:L2.fT K C) (n_classes:bL K C "classes") (n_columns:bL K C "columns") (n_leads:bL K C "leads") (n_leaf_rules:bL K C "leaf_rules") (n_sign_rules:bL K C "sign_rules") (fO:kR P w K d cY) (fF:mg "SIGNS"=some (.ref d)) (o_SIGNS:∃ o,K.lookup d=some o) (bA:mg "len"=none)
  (D0:Callee P w K mg base 8 "columns_of" Ky []) (D3:Callee P w K mg base 2 "pass_leads" Gf []) (wL:Callee P w K mg base 1 "is_pass" DM []) (M_wire:qK P w K mg base 2 C "wire" (Lc C)):oJ P w K mg base 9 "Wiring" C (B7 C):=by
 refine A3 F hMk hgl lG (rQ fun _ _ _ _ _ _ _ _=>rfl) (fun us M Q h=>by obtain ⟨_,_,_,_,rfl,_⟩:=h;rfl) (aE (mX c_Wiring n_classes (uv 0) (aP (uv 1) aO))
 (aE (mX c_Wiring n_columns (uv 0) (aK D0 (aA (uv 1) aB)))
 (aE (mX c_Wiring n_leads (uv 0) (aK D3 (aA (uv 1) aB)))
 (aE (mX c_Wiring n_leaf_rules (uv 0) (cG (own:=true) aB))
 (aE (mX c_Wiring n_sign_rules (uv 0) (QA false))
 (aE (eI (Qs fO o_SIGNS (A5 fF)) (aX (k:=1000) 2 lG.nd)
 (aJ (QL false Iq (cG (own:=true) aB) (cH c_Wiring n_sign_rules (uv 0)) (uv 2))))
 (aE (eI (eA (aP (uv 1) aO)) (aX (k:=1000) 3 lG.nd)
 (aJ (cF (SK (Bi (aK wL (aA (uv 3) aB))))
 (aJ (dM (B3 M_wire c_Wiring (uv 0) (aA (aP (uv 3) aO) (aA (aP (uv 3) aO) (aA (aP (uv 3) aO) aB))))))
 bO)))
 (aJ (HW (eI (eA (t9 (own:=false) (cH c_Wiring n_columns (uv 0)) (qM (fB eC bA (aA (cH c_Wiring n_classes (uv 0)) aB))) qP)) (aX (k:=1000) 4 lG.nd)
 (aJ (dM (B3 M_wire c_Wiring (uv 0) (aA (uv 4) (aA aO (aA (uv 4) aB)))))))))))))))) ?_
 rintro us M Q ⟨x,dx,cs,tls,rfl,hx,hT,q⟩;have hc6:=hT.cls.len;have ht10:=hT.len;refine aH fun V hV=>?_;simp! only [m5,dP,aW,hx,nB];refine ⟨by decide,?_⟩;subst hV;refine aH fun V hV=>?_;simp! only [m5,nB];refine ⟨cs,tls,rfl,hT.tab,fun pc hpc=>?_⟩;have e1:x≠pc:=fun z=>by rw [<- z,aD] at hpc;cases hpc
 have hMc:M pc=none:=by rw [aF e1.symm] at hpc;exact hpc
 simp! only [aF e1];refine ⟨by decide,?_⟩
 rw [show nB (Str.ofString "columns") (U.ref pc) [(Str.ofString "classes",U.tup (List.map U.str cs))]=[(Str.ofString "classes",aW cs),(Str.ofString "columns",U.ref pc)] from rfl]
 generalize hM2:mup (mup (mup M x (MO.ins C dx [(Str.ofString "classes",U.tup (List.map U.str cs))])) pc (MO.lst (List.map U.str cs++List.map Pt.toU (aN tls)))) x (MO.ins C dx [(Str.ofString "classes",aW cs),(Str.ofString "columns",U.ref pc)])=M2
 have x2:M2 x=some (.ins C dx [(Str.ofString "classes",aW cs),(Str.ofString "columns",U.ref pc)]):=by rw [<- hM2,aD]
 have c2:M2 pc=some (.lst (eG cs (aN tls))):=by rw [<- hM2,aF e1.symm,aD];rfl
 have o2:∀ b mo,b≠x->M b=some mo->M2 b=some mo:=fun b mo hb e=>by
  have hbc:b≠pc:=fun z=>by rw [z,hMc] at e;cases e
  rw [<- hM2,aF hb,aF hbc,aF hb];exact e
 clear hM2
 subst hV;refine aH fun V hV=>?_;simp! only [m5,x2];refine ⟨cs,tls,rfl,hT,?_⟩;simp! only [x2];refine ⟨by decide,?_⟩
 rw [show nB (Str.ofString "leads") (U.lst ((bB cs tls).map gZ)) [(Str.ofString "classes",aW cs),(Str.ofString "columns",U.ref pc)]=[(Str.ofString "classes",aW cs),(Str.ofString "columns",U.ref pc),(Str.ofString "leads",U.lst ((bB cs tls).map gZ))] from rfl]
 generalize hM3:mup M2 x (MO.ins C dx [(Str.ofString "classes",aW cs),(Str.ofString "columns",U.ref pc),(Str.ofString "leads",U.lst ((bB cs tls).map gZ))])=M3
 have x3:M3 x=some (.ins C dx [(Str.ofString "classes",aW cs),(Str.ofString "columns",U.ref pc),(Str.ofString "leads",U.lst ((bB cs tls).map gZ))]):=by rw [<- hM3,aD]
 have c3:M3 pc=some (.lst (eG cs (aN tls))):=by rw [<- hM3,aF e1.symm];exact c2
 have o3:∀ b mo,b≠x->M b=some mo->M3 b=some mo:=fun b mo hb e=>by rw [<- hM3,aF hb];exact o2 b mo hb e
 clear hM3 x2 c2 o2
 subst hV;refine aH fun V hV=>?_;simp! only [m5];refine fun pl hpl=>?_;have e2:x≠pl:=fun z=>by rw [<- z,x3] at hpl;cases hpl
 have e3:pc≠pl:=fun z=>by rw [<- z,c3] at hpl;cases hpl
 have hMl:M pl=none:=by
  cases h:M pl with
  | none=>rfl
  | some mo=>rw [o3 pl mo e2.symm h] at hpl;cases hpl
 simp! only [aF e2,x3];refine ⟨by decide,?_⟩
 rw [show nB (Str.ofString "leaf_rules") (U.ref pl) [(Str.ofString "classes",aW cs),(Str.ofString "columns",U.ref pc),(Str.ofString "leads",U.lst ((bB cs tls).map gZ))]=[(Str.ofString "classes",aW cs),(Str.ofString "columns",U.ref pc),(Str.ofString "leads",U.lst ((bB cs tls).map gZ)),(Str.ofString "leaf_rules",U.ref pl)] from rfl]
 generalize hM4:mup (mup M3 pl (MO.lst [])) x (MO.ins C dx [(Str.ofString "classes",aW cs),(Str.ofString "columns",U.ref pc),(Str.ofString "leads",U.lst ((bB cs tls).map gZ)),(Str.ofString "leaf_rules",U.ref pl)])=M4
 have x4:M4 x=some (.ins C dx [(Str.ofString "classes",aW cs),(Str.ofString "columns",U.ref pc),(Str.ofString "leads",U.lst ((bB cs tls).map gZ)),(Str.ofString "leaf_rules",U.ref pl)]):=by rw [<- hM4,aD]
 have c4:M4 pc=some (.lst (eG cs (aN tls))):=by rw [<- hM4,aF e1.symm,aF e3];exact c3
 have l4:M4 pl=some (.lst []):=by rw [<- hM4,aF e2.symm,aD]
 have o4:∀ b mo,b≠x->M b=some mo->M4 b=some mo:=fun b mo hb e=>by
  have hbc:b≠pl:=fun z=>by rw [z,hMl] at e;cases e
  rw [<- hM4,aF hb,aF hbc];exact o3 b mo hb e
 clear hM4 x3 c3 o3
 subst hV;refine aH fun V hV=>?_;simp! only [m5,Ox,Uz];refine fun pd hpd=>?_;have e4:x≠pd:=fun z=>by rw [<- z,x4] at hpd;cases hpd
 have e5:pc≠pd:=fun z=>by rw [<- z,c4] at hpd;cases hpd
 have e6:pl≠pd:=fun z=>by rw [<- z,l4] at hpd;cases hpd
 have hMd:M pd=none:=by
  cases h:M pd with
  | none=>rfl
  | some mo=>rw [o4 pd mo e4.symm h] at hpd;cases hpd
 simp! only [aF e4,x4];refine ⟨by decide,?_⟩
 rw [show nB (Str.ofString "sign_rules") (U.ref pd) [(Str.ofString "classes",aW cs),(Str.ofString "columns",U.ref pc),(Str.ofString "leads",U.lst ((bB cs tls).map gZ)),(Str.ofString "leaf_rules",U.ref pl)]=zI cs (bB cs tls) pc pl pd from rfl]
 generalize hM5:mup (mup M4 pd (MO.dK [])) x (MO.ins C dx (zI cs (bB cs tls) pc pl pd))=M5;have x5:M5 x=some (.ins C dx (zI cs (bB cs tls) pc pl pd)):=by rw [<- hM5,aD]
 have c5:M5 pc=some (.lst (eG cs (aN tls))):=by rw [<- hM5,aF e1.symm,aF e5];exact c4
 have l5:M5 pl=some (.lst []):=by rw [<- hM5,aF e2.symm,aF e6];exact l4
 have d5:M5 pd=some (.dK []):=by rw [<- hM5,aF e4.symm,aD]
 have o5:∀ b mo,b≠x->M b=some mo->M5 b=some mo:=fun b mo hb e=>by
  have hbc:b≠pd:=fun z=>by rw [z,hMd] at e;cases e
  rw [<- hM5,aF hb,aF hbc];exact o4 b mo hb e
 clear hM5 x4 c4 l4 o4
 obtain ⟨k1,k2,k3,k4,k5⟩:=PL (cs:=cs) (lds:=bB cs tls) (pc:=pc) (pl:=pl) (pd:=pd);subst hV;refine aH fun V hV=>?_
 refine eP (S:=⟨none,cY.map fun p=>U.str p.1⟩) (M1:=M5) (fun R r=>by simp! only [HF];exact r)
  (fun i τ' M'=>∃ (e2:Option U) (g:Nat->Addr),τ'=[some (.ref x),some (dP cs tls),e2,none,none]/\Eh M C x dx pc pl pd g cs (aN tls) (bB cs tls) i M')
  ⟨none,fun _=>0,rfl,⟨x5,c5,l5,d5,(fun k hk=>absurd hk (by omega)),o5,⟨(fun k hk=>absurd hk (by omega)),(fun k hk=>absurd hk (by omega)),(fun k hk=>absurd hk (by omega)),(fun j k hj=>absurd hj (by omega))⟩⟩⟩ (fun i τ' M' _=>fun a e=>by cases e) ?_ ?_
 ·rintro i v τ' M' hi ⟨e2',g,rfl,W⟩
  have hi4:i < 4:=(List.getElem?_eq_some_iff.mp hi).1
  obtain ⟨z,hz⟩:∃ z,v=U.str z:=by
   rw [List.getElem?_map] at hi
   cases h:cY[i]? with
   | none=>rw [h] at hi;cases hi
   | some p=>rw [h] at hi;cases hi;exact ⟨_,rfl⟩
  subst hz;simp! only [hName,Oj,fX];refine fun r hr=>?_;have er:x≠r:=fun z=>by rw [<- z,W.ins] at hr;cases hr
  have erd:pd≠r:=fun z=>by rw [<- z,W.dic] at hr;cases hr
  have f3:cK C (Str.ofString "sign_rules") (.ref x) (mup M' r (.lst []))=some (.ref pd):=(bS (by rw [aF er];exact W.ins)).trans k3
  simp! only [f3,aF erd,W.dic,xI];refine ⟨by rw [List.length_take];exact big (by omega),?_⟩
  have hput:jF ((sG fun k=>U.ref (g k)).take i) (.inr z) (U.ref r)=(sG fun k=>U.ref (if k=i then r else g k)).take (i + 1):=by
   match i,hi,hi4 with
   | 0,hi,_=>cases hi;rfl
   | 1,hi,_=>cases hi;rfl
   | 2,hi,_=>cases hi;rfl
   | 3,hi,_=>cases hi;rfl
  rw [hput];exact ⟨_,_,rfl,W.next hMd hr hi4⟩
 ·rintro τ' M' ⟨e2',g,rfl,W⟩
  have W':Eh M C x dx pc pl pd g cs (aN tls) (bB cs tls) 4 M':=W;have hD:WD M pc pl pd g:=⟨e3,W'.ds.1,W'.ds.2.1,fun j k hj hk=>W'.ds.2.2.2 j k hj hk,hMc,hMl,hMd,W'.ds.2.2.1⟩;have hW:wK M C x dx pc pl pd g cs (aN tls) (bB cs tls) ([],fun _=>[]) M':=⟨W'.ins,W'.col,W'.lf,W'.dic,W'.rul,W'.old⟩
  clear W W' x5 c5 l5 d5 o5
  have hfine:=Bg hT;have hcnt:=CO hT;show V _ _;subst hV;refine aH fun V hV=>?_
  refine eP (S:=⟨none,tls.map Tl.toU⟩) (M1:=M') (fun R r=>by simp! only [dP];exact r)
   (fun i τ' M'=>∃ (e3:Option U),τ'=[some (.ref x),some (dP cs tls),e2',e3,none]/\wK M C x dx pc pl pd g cs (aN tls) (bB cs tls) ((tls.take i).foldl (nH cs (aN tls)) ([],fun _=>[])) M'/\sZ ((tls.take i).foldl (nH cs (aN tls)) ([],fun _=>[])) i)
   ⟨none,rfl,hW,⟨Nat.le_refl _,fun _=>Nat.le_refl _⟩⟩ (fun i τ' M' _=>fun a e=>by cases e) ?_ ?_
  ·rintro i v τ' M' hi ⟨e3',rfl,W,hn⟩
   rw [List.getElem?_map] at hi
   cases ht:tls[i]? with
   | none=>rw [ht] at hi;cases hi
   | some t =>
    rw [ht] at hi;cases hi;have hX:=hT.all t (List.mem_of_getElem? ht);have hil:i < tls.length:=(List.getElem?_eq_some_iff.mp ht).1;rw [List.take_add_one,ht,Option.toList_some,List.foldl_append,List.foldl_cons,List.foldl_nil];generalize (tls.take i).foldl (nH cs (aN tls)) ([],fun _=>[])=st at *;simp! only [hName];refine bX fun A B hA hB=>?_;simp! only [true_and];refine ⟨t,rfl,?_⟩
    cases hh:t.k.pt.isHole with
    | true =>
     simp! only [true_and];subst hB;simp only [cE];have e:nH cs (aN tls) st t=st:=by unfold nH;rw [if_pos hh]
     rw [e];exact ⟨_,rfl,W,by have:=hn.1;omega,fun k=>by have:=hn.2 k;omega⟩
    | false =>
     simp! only [true_and];subst hA;have e:nH cs (aN tls) st t=addW cs (aN tls) st (.c t.k.cls) t.k.cost.toNat t.k.pt:=by unfold nH;rw [if_neg (by rw [hh];exact Bool.false_ne_true)]
     rw [e];have hcost:U.int t.k.cost=U.int ((t.k.cost.toNat:Nat):Int):=by rw [Int.toNat_of_nonneg hX.cost.1]
     simp! only [eK,Aq,W.ins,Tl.toU,hcost];refine ⟨k4,x,dx,pc,pl,pd,g,cs,aN tls,_,st.1,st.2,.c t.k.cls,t.k.cost.toNat,t.k.pt,rfl,W.ins,k1,k2,k3,k4,W.col,W.lf,W.dic,W.rul,hT.cls.ok,hfine,by have:=hn.1;omega,fun k=>by have:=hn.2 k;omega,⟨hX.cls,hT.cls.ok _ hX.cls⟩,fun a ha=>yF hT (List.mem_of_getElem? ht) (uQ ha a (vC a)),fun hs=>?_,fun k hs=>?_⟩
     ·have e:addW cs (aN tls) st (.c t.k.cls) t.k.cost.toNat t.k.pt=(st.1++[Dm cs (aN tls) t.k.cost.toNat (.c t.k.cls) t.k.pt],st.2):=by unfold addW;rw [hs]
      have hc:=uB (cs:=cs) (ps:=aN tls) (c:=.c t.k.cls) (pr:=t.k.cost.toNat) (p:=t.k.pt) hn;exact ⟨_,rfl,by rw [e];exact W.leaf hD _,hc⟩
     ·have e:addW cs (aN tls) st (.c t.k.cls) t.k.cost.toNat t.k.pt=(st.1,fun j=>if j=k then st.2 j++[Du cs (aN tls) t.k.cost.toNat (.c t.k.cls) t.k.pt] else st.2 j):=by unfold addW;rw [hs]
      have hc:=uB (cs:=cs) (ps:=aN tls) (c:=.c t.k.cls) (pr:=t.k.cost.toNat) (p:=t.k.pt) hn;obtain ⟨_,_,_,_,hk4⟩:=BV hs (fun _=>U.non);exact ⟨_,rfl,by rw [e];exact W.sign hD _ hk4,hc⟩
  ·rintro τ' M' ⟨e3',rfl,W,hn⟩
   rw [show (Src.mk none (tls.map Tl.toU)).xs.length=tls.length from List.length_map _,List.take_length] at W hn;generalize hst0:tls.foldl (nH cs (aN tls)) ([],fun _=>[])=st0 at *;show V _ _;subst hV;show D5 _ _ _ _;unfold D5
   have f1:cK C (Str.ofString "columns") (.ref x) M'=some (.ref pc):=(bS W.ins).trans k1
   have f5:cK C (Str.ofString "classes") (.ref x) M'=some (aW cs):=(bS W.ins).trans k5
   have hcut:jT (eG cs (aN tls)) (some (cs.length:Int)) none=(aN tls).map Pt.toU:=by
    rw [Sx _ (by simp [eG])];unfold eG;rw [List.drop_append_of_le_length (by simp),List.drop_of_length_le (by simp),List.nil_append]
   refine eP (S:=⟨none,(aN tls).map Pt.toU⟩) (M1:=M') (fun R r=>by
     simp! only [fX,f1,f5,aW,bJ W.col,List.length_map,hcut]
     exact r)
    (fun i τ' M'=>∃ (e4:Option U),τ'=[some (.ref x),some (dP cs tls),e2',e3',e4]/\wK M C x dx pc pl pd g cs (aN tls) (bB cs tls) (((aN tls).take i).foldl (oF cs (aN tls)) st0) M'/\sZ (((aN tls).take i).foldl (oF cs (aN tls)) st0) (10 + i))
    ⟨none,rfl,W,(by have:=hn.1;show st0.1.length<=10 + 0;omega),fun k=>by have:=hn.2 k;show (st0.2 k).length<=10 + 0;omega⟩ (fun i τ' M' _=>fun a e=>by cases e) ?_ ?_
   ·rintro i v τ' M' hi ⟨e4',rfl,W,hn⟩
    rw [List.getElem?_map] at hi
    cases ht:(aN tls)[i]? with
    | none=>rw [ht] at hi;cases hi
    | some p =>
     rw [ht] at hi;cases hi;have hmem:=List.mem_of_getElem? ht;have hil:i < (aN tls).length:=(List.getElem?_eq_some_iff.mp ht).1;obtain ⟨t,htm,htl,_⟩:=A6 hmem;have hpf:=hfine p hmem;rw [List.take_add_one,ht,Option.toList_some,List.foldl_append,List.foldl_cons,List.foldl_nil];generalize ((aN tls).take i).foldl (oF cs (aN tls)) st0=st at *;have hc:=uB (cs:=cs) (ps:=aN tls) (c:=.p p) (pr:=0) (p:=p) hn;simp! only [hName,eK,Aq,W.ins];refine ⟨k4,x,dx,pc,pl,pd,g,cs,aN tls,_,st.1,st.2,.p p,0,p,rfl,W.ins,k1,k2,k3,k4,W.col,W.lf,W.dic,W.rul,hT.cls.ok,hfine,by have:=hn.1;omega,fun k=>by have:=hn.2 k;omega,⟨hpf,p,hmem,SeqAt.eqv_refl _ (uL p hpf.1)⟩,fun a ha=>yF hT htm (pE (mH htl) a ha),fun hs=>?_,fun k hs=>?_⟩
     ·have e:oF cs (aN tls) st p=(st.1++[Dm cs (aN tls) 0 (.p p) p],st.2):=by unfold oF addW;rw [hs]
      exact ⟨_,rfl,by rw [e];exact W.leaf hD _,hc⟩
     ·have e:oF cs (aN tls) st p=(st.1,fun j=>if j=k then st.2 j++[Du cs (aN tls) 0 (.p p) p] else st.2 j):=by unfold oF addW;rw [hs]
      obtain ⟨_,_,_,_,hk4⟩:=BV hs (fun _=>U.non);exact ⟨_,rfl,by rw [e];exact W.sign hD _ hk4,hc⟩
   ·rintro τ' M' ⟨e4',rfl,W,hn⟩
    rw [show (Src.mk none ((aN tls).map Pt.toU)).xs.length=(aN tls).length from List.length_map _,List.take_length] at W;have est:(aN tls).foldl (oF cs (aN tls)) st0=gB cs tls:=by rw [<- hst0];rfl
    rw [est] at W;refine ⟨_,_,W.settle hD,?_⟩;exact aU q
theorem AA (F:cI K "lies_on_leaf" "lies_on_leaf" n9 f fd) (hm:mg "lies_on_leaf"=some (.ref f)):Callee P w K mg base 1 "lies_on_leaf" DR []:=by
 refine bQ F hm Ap (rQ fun _ _ _ _ _ _ _ _=>rfl) (aE (cF (cB lI (aP (uv 0) aO) gL)
 (aJ (bC (MS lI (aP (uv 1) aO) gL)))
 bO)
 (aJ (bC (RI (MS lI (aP (uv 1) aO) gL) (Q4 (TR SM SM (aP (uv 0) aO) (aP (uv 1) aO) (aP (uv 0) aO))))))) ?_
 rintro us M Q ⟨p,t,rfl,hp,q⟩;refine ⟨rfl,?_⟩
 rcases hp with rfl | ⟨l,h,rfl⟩
 ·cases t <;> (simp! only [Pt.toU,Tr.toU,pQ,xP,wM,v9,xX,xK,xT,xZ,kO,j5,mN,lR,dF,iQ,zV,wF,cE,bU,Dv,aY,hName,eK,Bj,Dr,oV] at q ⊢;exact aU q)
 ·cases t with
  | num n =>
   simp! only [Pt.toU,Tr.toU,pQ,xP,wM,v9,xX,xK,xT,xZ,kO,j5,mN,lR,dF,iQ,zV,wF,cE,bU,Dv,aY,hName,eK,Bj,Dr,oV] at q ⊢
   by_cases h1:l<=n
   ·rw [if_pos (decide_eq_true h1)]
    rw [decide_eq_true h1,Bool.true_and] at q;exact aU q
   ·rw [if_neg (by simpa using h1)]
    rw [decide_eq_false h1,Bool.false_and] at q;exact aU q
  | _=>simp! only [Pt.toU,Tr.toU,pQ,xP,wM,v9,xX,xK,xT,xZ,kO,j5,mN,lR,dF,iQ,zV,wF,cE,bU,Dv,aY,hName,eK,Bj,Dr,oV] at q ⊢;exact aU q
section
variable (cs:List Str) (ps:List Pt) (lds:List T3) (st:WT)
def cX:Nat:=cs.length + ps.length
def fN:List (Option Nat):=List.replicate (cX cs ps) none
def jA (l f:List (Option Nat)) (x:T3):List (Option Nat):=match l[x.1]? with
 | some (some v)=>k7 f x.2.1 (v + x.2.2)
 | _=>f
def lF (l:List (Option Nat)):List (Option Nat):=lds.foldl (jA l) l
def iW (t:Tr) (f:List (Option Nat)) (r:L3):List (Option Nat):=if pQ r.2.2 t then k7 f r.1 r.2.1 else f
def AO (t:Tr):List (Option Nat):=lF lds (st.1.foldl (iW t) (fN cs ps))
def bT:List (Option Nat)->Option Nat
 | []=>some 0
 | none :: _=>none
 | some a :: r=>(bT r).map (a + ·)
def fZ (parts:List (List (Option Nat))) (ds:List Nat):List (Option Nat):=(parts.zip ds).map fun p=>p.1[p.2]?.getD none
def oA (f:List (Option Nat)) (p:R3 × Option Nat):List (Option Nat):=match p.2 with
 | some v=>k7 f p.1.1 (p.1.2.1 + v)
 | none=>f
def HE (k:Nat) (sums:List (Option Nat)):List (Option Nat):=lF lds (((st.2 k).zip sums).foldl oA (fN cs ps))
def iU (k:Nat) (parts:List (List (Option Nat))):List (Option Nat):=HE cs ps lds st k ((st.2 k).map fun r=>bT (fZ parts r.2.2))
end
theorem Kl (l f:List (Option Nat)) (x:T3):(jA l f x).length=f.length:=by
 unfold jA;split
 ·exact nT _ _ _
 ·rfl
theorem wC (l:List (Option Nat)):∀ (xs:List T3) (f:List (Option Nat)),(xs.foldl (jA l) f).length=f.length
 | [],_=>rfl
 | x :: xs,f=>by rw [List.foldl_cons,wC l xs,Kl]
theorem k8 (lds:List T3) (l:List (Option Nat)):(lF lds l).length=l.length:=wC l lds l
theorem K0 (t:Tr) (f:List (Option Nat)) (r:L3):(iW t f r).length=f.length:=by
 unfold iW;split
 ·exact nT _ _ _
 ·rfl
theorem p9 (t:Tr):∀ (xs:List L3) (f:List (Option Nat)),(xs.foldl (iW t) f).length=f.length
 | [],_=>rfl
 | x :: xs,f=>by rw [List.foldl_cons,p9 t xs,K0]
theorem Na (f:List (Option Nat)) (p:R3 × Option Nat):(oA f p).length=f.length:=by
 unfold oA;split
 ·exact nT _ _ _
 ·rfl
theorem mQ:∀ (xs:List (R3 × Option Nat)) (f:List (Option Nat)),(xs.foldl oA f).length=f.length
 | [],_=>rfl
 | x :: xs,f=>by rw [List.foldl_cons,mQ xs,Na]
section
variable {cs:List Str} {ps:List Pt} {lds:List T3} {st:WT}
theorem iZ:(fN cs ps).length=cX cs ps:=List.length_replicate
theorem Cw (t:Tr):(AO cs ps lds st t).length=cX cs ps:=by rw [AO,k8,p9,iZ]
theorem v8 (k:Nat) (parts:List (List (Option Nat))):(iU cs ps lds st k parts).length=cX cs ps:=by rw [iU,HE,k8,mQ,iZ]
end
structure Az (cs:List Str) (ps:List Pt) (lds:List T3) (st:WT):Prop where
 ld:∀ x∈lds,x.1 < cs.length/\x.2.1 < cs.length
 lf:∀ r∈st.1,r.1 < cX cs ps/\(r.2.2=.any\/∃ l h,r.2.2=.fr l h)
 sg:∀ k,∀ r∈st.2 k,r.1 < cX cs ps/\(∀ d∈r.2.2,d < cX cs ps)/\r.2.2.length<=2
 n1:cX cs ps<=10000
 n2:lds.length<=10000
 n3:st.1.length<=10000
 n4:∀ k,(st.2 k).length<=10000
theorem j4:(fA cs ps lds st).lookup (Str.ofString "classes")=some (aW cs)/\(fA cs ps lds st).lookup (Str.ofString "columns")=some (.lst (eG cs ps))/\(fA cs ps lds st).lookup (Str.ofString "leads")=some (.lst (lds.map gZ))/\(fA cs ps lds st).lookup (Str.ofString "leaf_rules")=some (.lst (st.1.map oX))/\(fA cs ps lds st).lookup (Str.ofString "sign_rules")=some (B5 (sG fun k=>.lst ((st.2 k).map hZ))):=⟨rfl,rfl,rfl,rfl,rfl⟩
theorem u5 (cs:List Str) (ps:List Pt):(eG cs ps).length=cX cs ps:=by simp [eG,cX]
def vJ:Nat->Str
 | 0=>Str.ofString "turn"
 | 1=>Str.ofString "sum"
 | 2=>Str.ofString "less"
 | _=>Str.ofString "by"
theorem G5 (g:Nat->U) {k:Nat} (hk:k < 4):yR false M (B5 (sG g)) (.str (vJ k))=some (some (g k)):=by
 match k,hk with
 | 0,_=>rfl
 | 1,_=>rfl
 | 2,_=>rfl
 | 3,_=>rfl
def tL (C:Addr):bE:=fun us M Q=>∃ (x dx p:Addr) (cs:List Str) (ps:List Pt) (lds:List T3) (st:WT) (l:List (Option Nat)),us=[.ref x,.ref p]/\M x=some (.ins C dx (fA cs ps lds st))/\Az cs ps lds st/\M p=some (.lst (bG l))/\l.length=cX cs ps/\Q (.lst (bG (lF lds l))) M
theorem BL (F:cI K "with_passes" "with_passes" pK f fd) (hm:mg "with_passes"=some (.ref f)) (c_Wiring:L2.fT K C) (n_leads:bL K C "leads") (nN:mg "list"=none) (nW:Callee P w K mg base 1 "lower" qN []):Callee P w K mg base 2 "with_passes" (tL C) []:=by
 refine bQ F hm jR (rQ fun _ _ _ _ _ _ _ _=>rfl) (aE (aR 2 jR.nd (wW (EO (own:=true)) nN (aA (uv 1) aB)))
 (aE (eI (eA (cH c_Wiring n_leads (uv 0))) (lZ (n:=3) (bV (aX (k:=1000) 3 jR.nd) (bV (aX (k:=1000) 4 jR.nd) (bV (aX (k:=1000) 5 jR.nd) kJ))))
 (aJ (cF (cB t6 (aP (uv 1) (uv 3)) lX)
 (aJ (dM (aK nW (aA (uv 2) (aA (uv 4) (aA (cQ (own:=false) (aP (uv 1) (uv 3)) (uv 5)) aB))))))
 bO)))
 (aJ (bC (uv 2))))) ?_
 rintro us M Q ⟨x,dx,p,cs,ps,lds,st,l,rfl,hx,hW,hp,hl,q⟩;refine ⟨rfl,?_⟩;obtain ⟨k1,k2,k3,k4,k5⟩:=j4 (cs:=cs) (ps:=ps) (lds:=lds) (st:=st);refine aH fun V hV=>?_;simp! only [aY,hName,bJ hp];have hn:=hW.n1;refine fun r hr=>?_;have exr:x≠r:=fun z=>by rw [<- z,hx] at hr;cases hr
 have epr:p≠r:=fun z=>by rw [<- z,hp] at hr;cases hr
 subst hV;refine aH fun V hV=>?_
 have f3:cK C (Str.ofString "leads") (.ref x) (mup M r (.lst (bG l)))=some (.lst (lds.map gZ)):=(bS (by rw [aF exr];exact hx)).trans k3
 refine eP (S:=⟨none,lds.map gZ⟩) (M1:=mup M r (.lst (bG l))) (fun R r=>by simp! only [fX,f3];exact r)
  (fun i τ' M'=>∃ (e3 e4 e5:Option U),τ'=[some (.ref x),some (.ref p),some (.ref r),e3,e4,e5]/\M'=mup M r (.lst (bG ((lds.take i).foldl (jA l) l))))
  ⟨none,none,none,rfl,rfl⟩ (fun i τ' M' _=>fun a e=>by cases e) ?_ ?_
 ·rintro i v τ' M' hi ⟨e3,e4,e5,rfl,rfl⟩
  rw [List.getElem?_map] at hi
  cases ht:lds[i]? with
  | none=>rw [ht] at hi;cases hi
  | some y =>
   rw [ht] at hi;cases hi;obtain ⟨h1,h2⟩:=hW.ld y (List.mem_of_getElem? ht);have hcn:cs.length<=cX cs ps:=by unfold cX;omega
   rw [List.take_add_one,ht,Option.toList_some,List.foldl_append,List.foldl_cons,List.foldl_nil];have hfl:((lds.take i).foldl (jA l) l).length=l.length:=wC _ _ _;generalize (lds.take i).foldl (jA l) l=g at *;obtain ⟨v,hv⟩:∃ v,l[y.1]?=some v:=⟨_,List.getElem?_eq_getElem (by omega)⟩;have hat:=vR hv;have hvw:view (mup M r (.lst (bG g))) (.ref p)=.lst (bG l):=bJ (by rw [aF epr];exact hp);simp! only [kO,j5,mN,hName,gZ];refine bX fun A B hA hB=>?_
   cases v with
   | none =>
    simp! only [hvw,hat,oN];subst hB;simp only [cE];have e:jA l g y=g:=by unfold jA;rw [hv]
    rw [e];exact ⟨_,_,_,rfl,rfl⟩
   | some n =>
    simp! only [hvw,hat,oN];subst hA;simp! only [eK,hvw,hat,oN];have e:jA l g y=k7 g y.2.1 (n + y.2.2):=by unfold jA;rw [hv]
    refine ⟨r,g,y.2.1,n + y.2.2,by push_cast;rfl,aD,by omega,?_⟩;rw [aZ,e];exact ⟨_,_,_,rfl,rfl⟩
 ·rintro τ' M' ⟨e3,e4,e5,rfl,rfl⟩
  rw [show (Src.mk none (lds.map gZ)).xs.length=lds.length from List.length_map _,List.take_length];show V _ _;subst hV;simp! only [bU];exact ⟨_,M,(Sub.refl M).mup hr,.inr ⟨r,_,rfl,aD,hr,rfl⟩,q⟩
def B9 (C:Addr):bE:=fun us M Q=>∃ (x dx:Addr) (cs:List Str) (ps:List Pt) (lds:List T3) (st:WT) (t:Tr),us=[.ref x,t.toU]/\M x=some (.ins C dx (fA cs ps lds st))/\Az cs ps lds st/\Q (.lst (bG (AO cs ps lds st t))) M
theorem BH (F:cI K "leaf_prices" "leaf_prices" pS f fd) (hm:mg "leaf_prices"=some (.ref f)) (c_Wiring:L2.fT K C) (n_columns:bL K C "columns") (n_leaf_rules:bL K C "leaf_rules") (bA:mg "len"=none) (nW:Callee P w K mg base 1 "lower" qN []) (BQ:Callee P w K mg base 1 "lies_on_leaf" DR []) (kH:Callee P w K mg base 2 "with_passes" (tL C) []):Callee P w K mg base 3 "leaf_prices" (B9 C) []:=by
 refine bQ F hm jE (rQ fun _ _ _ _ _ _ _ _=>rfl) (aE (aR 2 jE.nd (gX (own:=true) (cG (own:=true) (aA lX aB)) (fB eC bA (aA (cH c_Wiring n_columns (uv 0)) aB))))
 (aE (eI (eA (cH c_Wiring n_leaf_rules (uv 0))) (lZ (n:=3) (bV (aX (k:=1000) 3 jE.nd) (bV (aX (k:=1000) 4 jE.nd) (bV (aX (k:=1000) 5 jE.nd) kJ))))
 (aJ (cF (Bi (aK BQ (aA (uv 5) (aA (uv 1) aB))))
 (aJ (dM (aK nW (aA (uv 2) (aA (uv 3) (aA (uv 4) aB))))))
 bO)))
 (aJ (bC (aK kH (aA (uv 0) (aA (uv 2) aB))))))) ?_
 rintro us M Q ⟨x,dx,cs,ps,lds,st,t,rfl,hx,hW,q⟩;refine ⟨rfl,?_⟩;obtain ⟨k1,k2,k3,k4,k5⟩:=j4 (cs:=cs) (ps:=ps) (lds:=lds) (st:=st);have hn:=hW.n1;refine aH fun V hV=>?_;simp! only [aY,hName,fX];refine fun t1 ht1=>?_;have ext:x≠t1:=fun z=>by rw [<- z,hx] at ht1;cases ht1
 have f2:cK C (Str.ofString "columns") (.ref x) (mup M t1 (.lst [.non]))=some (.lst (eG cs ps)):=(bS (by rw [aF ext];exact hx)).trans k2
 simp! only [f2,u5];refine ⟨by omega,by omega,by rw [Int.toNat_natCast];exact small (by omega),?_⟩;rw [Int.toNat_natCast,xD];refine fun r hr=>?_;have etr:t1≠r:=fun z=>by rw [<- z,aD] at hr;cases hr
 have hMr:M r=none:=by rw [aF etr.symm] at hr;exact hr
 have exr:x≠r:=fun z=>by rw [<- z,hx] at hMr;cases hMr
 have e0:List.replicate (cX cs ps) none=fN cs ps:=rfl;rw [e0];generalize hM1:mup M t1 (.lst [U.non])=M1 at *;have hsub:Sub M M1:=by rw [<- hM1];exact (Sub.refl M).mup ht1
 have hx1:M1 x=some (.ins C dx (fA cs ps lds st)):=hsub _ _ hx;subst hV;refine aH fun V hV=>?_
 have f4:cK C (Str.ofString "leaf_rules") (.ref x) (mup M1 r (.lst (bG (fN cs ps))))=some (.lst (st.1.map oX)):=(bS (by rw [aF exr];exact hx1)).trans k4
 refine eP (S:=⟨none,st.1.map oX⟩) (M1:=mup M1 r (.lst (bG (fN cs ps)))) (fun R r=>by simp! only [fX,f4];exact r)
  (fun i τ' M'=>∃ (e3 e4 e5:Option U),τ'=[some (.ref x),some t.toU,some (.ref r),e3,e4,e5]/\M'=mup M1 r (.lst (bG ((st.1.take i).foldl (iW t) (fN cs ps)))))
  ⟨none,none,none,rfl,rfl⟩ (fun i τ' M' _=>fun a e=>by cases e) ?_ ?_
 ·rintro i v τ' M' hi ⟨e3,e4,e5,rfl,rfl⟩
  rw [List.getElem?_map] at hi
  cases ht:st.1[i]? with
  | none=>rw [ht] at hi;cases hi
  | some y =>
   rw [ht] at hi;cases hi;obtain ⟨h1,h2⟩:=hW.lf y (List.mem_of_getElem? ht);rw [List.take_add_one,ht,Option.toList_some,List.foldl_append,List.foldl_cons,List.foldl_nil];have hfl:((st.1.take i).foldl (iW t) (fN cs ps)).length=cX cs ps:=by rw [p9,iZ]
   generalize (st.1.take i).foldl (iW t) (fN cs ps)=g at *;simp! only [kO,j5,mN,hName,oX];refine bX fun A B hA hB=>?_;simp! only [true_and];refine ⟨y.2.2,t,rfl,h2,?_⟩
   cases hlf:pQ y.2.2 t with
   | false =>
    simp! only [true_and];subst hB;simp only [cE];have e:iW t g y=g:=by unfold iW;rw [hlf];rfl
    rw [e];exact ⟨_,_,_,rfl,rfl⟩
   | true =>
    simp! only [true_and];subst hA;simp! only [eK];have e:iW t g y=k7 g y.1 y.2.1:=by unfold iW;rw [hlf];rfl
    refine ⟨r,g,y.1,y.2.1,rfl,aD,by omega,?_⟩;rw [aZ,e];exact ⟨_,_,_,rfl,rfl⟩
 ·rintro τ' M' ⟨e3,e4,e5,rfl,rfl⟩
  rw [show (Src.mk none (st.1.map oX)).xs.length=st.1.length from List.length_map _,List.take_length];show V _ _;subst hV;simp! only [bU];refine ⟨x,dx,r,cs,ps,lds,st,st.1.foldl (iW t) (fN cs ps),rfl,by rw [aF exr];exact hx1,hW,aD,by rw [p9,iZ],?_⟩;exact ⟨_,M,hsub.mup hMr,.inl rfl,q⟩
theorem AU {l:List α} {m:List β} {x:α × β} (h:(l.zip m)[i]?=some x):l[i]?=some x.1/\m[i]?=some x.2:=List.getElem?_zip_eq_some.mp h
theorem Au (f:α->U) (g:β->U) (l:List α) (m:List β):dE (l.map f) (m.map g)=(l.zip m).map fun p=>U.tup [f p.1,g p.2]:=by
 induction l generalizing m with
 | nil=>rfl
 | cons a l ih =>
  cases m with
  | nil=>rfl
  | cons b m=>simp only [List.map_cons,dE,List.zip_cons_cons,ih m]
def EU (C:Addr):bE:=fun us M Q=>∃ (x dx:Addr) (cs:List Str) (ps:List Pt) (lds:List T3) (st:WT) (k:Nat) (sums:List (Option Nat)),us=[.ref x,.str (vJ k),.lst (bG sums)]/\k < 4/\M x=some (.ins C dx (fA cs ps lds st))/\Az cs ps lds st/\sums.length<=10000/\Q (.lst (bG (HE cs ps lds st k sums))) M
theorem zG (F:cI K "prices_of_sums" "prices_of_sums" mO f fd) (hm:mg "prices_of_sums"=some (.ref f)) (c_Wiring:L2.fT K C) (n_columns:bL K C "columns") (n_sign_rules:bL K C "sign_rules") (bA:mg "len"=none) (yK:mg "zip"=none) (nW:Callee P w K mg base 1 "lower" qN []) (kH:Callee P w K mg base 2 "with_passes" (tL C) []):Callee P w K mg base 3 "prices_of_sums" (EU C) []:=by
 refine bQ F hm jB (uD fun _ _ _ _ _ _ _ _ _=>rfl) (aE (aR 3 jB.nd (gX (own:=true) (cG (own:=true) (aA lX aB)) (fB eC bA (aA (cH c_Wiring n_columns (uv 0)) aB))))
 (aE (eI (EV yK (aA (B0 false Iq (cH c_Wiring n_sign_rules (uv 0)) (uv 1)) (aA (uv 2) aB))) (lZ (n:=2) (bV (aX (k:=1000) 4 jB.nd) (bV (aX (k:=1000) 5 jB.nd) kJ)))
 (aJ (cF (cB t6 (uv 5) lX)
 (aJ (dM (aK nW (aA (uv 3) (aA (aP (uv 4) aO) (aA (cQ (own:=false) (aP (uv 4) aO) (uv 5)) aB))))))
 bO)))
 (aJ (bC (aK kH (aA (uv 0) (aA (uv 3) aB))))))) ?_
 rintro us M Q ⟨x,dx,cs,ps,lds,st,k,sums,rfl,hk,hx,hW,hsl,q⟩;refine ⟨rfl,?_⟩;obtain ⟨k1,k2,k3,k4,k5⟩:=j4 (cs:=cs) (ps:=ps) (lds:=lds) (st:=st);have hn:=hW.n1;refine aH fun V hV=>?_;simp! only [aY,hName,fX];refine fun t1 ht1=>?_;have ext:x≠t1:=fun z=>by rw [<- z,hx] at ht1;cases ht1
 have f2:cK C (Str.ofString "columns") (.ref x) (mup M t1 (.lst [.non]))=some (.lst (eG cs ps)):=(bS (by rw [aF ext];exact hx)).trans k2
 simp! only [f2,u5];refine ⟨by omega,by omega,by rw [Int.toNat_natCast];exact small (by omega),?_⟩;rw [Int.toNat_natCast,xD];refine fun r hr=>?_;have etr:t1≠r:=fun z=>by rw [<- z,aD] at hr;cases hr
 have hMr:M r=none:=by rw [aF etr.symm] at hr;exact hr
 have exr:x≠r:=fun z=>by rw [<- z,hx] at hMr;cases hMr
 have e0:List.replicate (cX cs ps) none=fN cs ps:=rfl;rw [e0];generalize hM1:mup M t1 (.lst [U.non])=M1 at *;have hsub:Sub M M1:=by rw [<- hM1];exact (Sub.refl M).mup ht1
 have hx1:M1 x=some (.ins C dx (fA cs ps lds st)):=hsub _ _ hx;subst hV;refine aH fun V hV=>?_
 have f5:cK C (Str.ofString "sign_rules") (.ref x) (mup M1 r (.lst (bG (fN cs ps))))=some (B5 (sG fun k=>.lst ((st.2 k).map hZ))):=(bS (by rw [aF exr];exact hx1)).trans k5
 have hzip:dE ((st.2 k).map hZ) (bG sums)=((st.2 k).zip sums).map fun p=>U.tup [hZ p.1,oN p.2]:=Au _ _ _ _
 refine eP (S:=⟨none,((st.2 k).zip sums).map fun p=>U.tup [hZ p.1,oN p.2]⟩) (M1:=mup M1 r (.lst (bG (fN cs ps)))) (fun R r=>by simp! only [AN,fX,f5,yB,G5 _ hk,hzip];exact r)
  (fun i τ' M'=>∃ (e3 e4:Option U),τ'=[some (.ref x),some (.str (vJ k)),some (.lst (bG sums)),some (.ref r),e3,e4]/\M'=mup M1 r (.lst (bG ((((st.2 k).zip sums).take i).foldl oA (fN cs ps)))))
  ⟨none,none,rfl,rfl⟩ (fun i τ' M' _=>fun a e=>by cases e) ?_ ?_
 ·rintro i v τ' M' hi ⟨e3,e4,rfl,rfl⟩
  rw [List.getElem?_map] at hi
  cases ht:((st.2 k).zip sums)[i]? with
  | none=>rw [ht] at hi;cases hi
  | some y =>
   rw [ht] at hi;cases hi;obtain ⟨h1,_⟩:=hW.sg k y.1 (List.mem_of_getElem? (AU ht).1);rw [List.take_add_one,ht,Option.toList_some,List.foldl_append,List.foldl_cons,List.foldl_nil];have hfl:((((st.2 k).zip sums).take i).foldl oA (fN cs ps)).length=cX cs ps:=by rw [mQ,iZ]
   generalize (((st.2 k).zip sums).take i).foldl oA (fN cs ps)=g at *;obtain ⟨y1,y2⟩:=y;have h1:y1.1 < cX cs ps:=h1;simp! only [kO,j5,mN,hName];refine bX fun A B hA hB=>?_
   cases y2 with
   | none =>
    simp! only [oN];subst hB;simp only [cE];exact ⟨_,_,rfl,rfl⟩
   | some n =>
    simp! only [oN];subst hA;simp! only [eK,hZ,oN];refine ⟨r,g,y1.1,y1.2.1 + n,by push_cast;rfl,aD,by omega,?_⟩;rw [aZ];exact ⟨_,_,rfl,rfl⟩
 ·rintro τ' M' ⟨e3,e4,rfl,rfl⟩
  rw [show (Src.mk none (((st.2 k).zip sums).map fun p=>U.tup [hZ p.1,oN p.2])).xs.length=((st.2 k).zip sums).length from List.length_map _,List.take_length];show V _ _;subst hV;simp! only [bU];refine ⟨x,dx,r,cs,ps,lds,st,((st.2 k).zip sums).foldl oA (fN cs ps),rfl,by rw [aF exr];exact hx1,hW,aD,by rw [mQ,iZ],?_⟩;exact ⟨_,M,hsub.mup hMr,.inl rfl,q⟩
theorem wV:∀ {l:List (Option Nat)},(bG l).any (fun u=>uA u U.non)=true->bT l=none
 | [],h=>by cases h
 | none :: l,_=>rfl
 | some a :: l,h=>by
  have h':(bG l).any (fun u=>uA u U.non)=true:=by simpa [bG,oN,uA] using h
  simp only [bT,wV h',Option.map_none]
theorem w6:∀ {l:List (Option Nat)},(bG l).any (fun u=>uA u U.non)=false->∃ ns:List Int,∃ s:Nat,intsOf (bG l)=some ns/\ns.sum=(s:Int)/\bT l=some s
 | [],_=>⟨[],0,rfl,rfl,rfl⟩
 | none :: l,h=>by simp [bG,oN,uA] at h
 | some a :: l,h=>by
  have h':(bG l).any (fun u=>uA u U.non)=false:=by simpa [bG,oN,uA] using h
  obtain ⟨ns,s,e1,e2,e3⟩:=w6 h';refine ⟨(a:Int) :: ns,a + s,?_,?_,?_⟩
  ·have e:bG (some a :: l)=U.int (a:Int) :: bG l:=rfl
   rw [e];simp only [intsOf,e1,Option.map_some]
  ·rw [List.sum_cons,e2];push_cast;rfl
  ·simp only [bT,e3,Option.map_some]
theorem GQ (l:List (Option Nat)):(bG l).all lE=true:=by
 simp only [bG,List.all_map,List.all_eq_true];intro x _;cases x <;> rfl
def tN (parts:List (List (Option Nat))):U:=.lst (parts.map fun l=>.lst (bG l))
def Bo (C:Addr):bE:=fun us M Q=>∃ (x dx:Addr) (cs:List Str) (ps:List Pt) (lds:List T3) (st:WT) (k:Nat) (parts:List (List (Option Nat))),us=[.ref x,.str (vJ k),tN parts]/\k < 4/\M x=some (.ins C dx (fA cs ps lds st))/\Az cs ps lds st/\parts.length<=2/\(∀ l∈parts,l.length=cX cs ps)/\Q (.lst (bG (iU cs ps lds st k parts))) M
theorem Bq (F:cI K "sign_prices" "sign_prices" pU f fd) (hm:mg "sign_prices"=some (.ref f)) (c_Wiring:L2.fT K C) (n_sign_rules:bL K C "sign_rules") (yE:mg "sum"=none) (yK:mg "zip"=none) (z9:Callee P w K mg base 3 "prices_of_sums" (EU C) []):Callee P w K mg base 4 "sign_prices" (Bo C) []:=by
 refine bQ F hm gM (uD fun _ _ _ _ _ _ _ _ _=>rfl) (aE (aR 3 gM.nd (cG (own:=true) aB))
 (aE (HW (eI (eA (B0 false Iq (cH c_Wiring n_sign_rules (uv 0)) (uv 1))) (lZ (n:=3) (bV (aX (k:=1000) 4 gM.nd) (bV (aX (k:=1000) 5 gM.nd) (bV (aX (k:=1000) 6 gM.nd) kJ))))
 (aE (qL 7 gM.nd false ["prices","draw"] 2 [] (EV yK (aA (uv 2) (aA (uv 6) aB))) (lZ (n:=2) (bV (aX (k:=2) 0 (by dsimp only [bZ];decide +kernel)) (bV (aX (k:=2) 1 (by dsimp only [bZ];decide +kernel)) kJ))) lH (aP (uv 0) (uv 1)))
 (aJ (dM (jW (uv 3) (aA (Dt (cB S7 lX (uv 7)) lX (fB JW yE (aA (uv 7) aB))) aB)))))))
 (aJ (bC (aK z9 (aA (uv 0) (aA (uv 1) (aA (uv 3) aB)))))))) ?_
 rintro us M Q ⟨x,dx,cs,ps,lds,st,k,parts,rfl,hk,hx,hW,hpl,hpn,q⟩;refine ⟨rfl,?_⟩;obtain ⟨k1,k2,k3,k4,k5⟩:=j4 (cs:=cs) (ps:=ps) (lds:=lds) (st:=st);refine aH fun V hV=>?_;simp! only [aY,hName];refine fun r hr=>?_;have exr:x≠r:=fun z=>by rw [<- z,hx] at hr;cases hr
 subst hV;refine aH fun V hV=>?_;show D5 _ _ _ _;unfold D5
 have f5:cK C (Str.ofString "sign_rules") (.ref x) (mup M r (.lst []))=some (B5 (sG fun k=>.lst ((st.2 k).map hZ))):=(bS (by rw [aF exr];exact hx)).trans k5
 let sumsF:List R3->List (Option Nat):=fun rs=>rs.map fun r=>bT (fZ parts r.2.2)
 refine eP (S:=⟨none,(st.2 k).map hZ⟩) (M1:=mup M r (.lst [])) (fun R r=>by simp! only [fX,f5,yB,G5 _ hk];exact r)
  (fun i τ' M'=>∃ (e4 e5 e6 e7:Option U),τ'=[some (.ref x),some (.str (vJ k)),some (tN parts),some (.ref r),e4,e5,e6,e7]/\M'=mup M r (.lst (bG (sumsF ((st.2 k).take i))))/\i<=(st.2 k).length)
  ⟨none,none,none,none,rfl,rfl,Nat.zero_le _⟩ (fun i τ' M' _=>fun a e=>by cases e) ?_ ?_
 ·rintro i v τ' M' hi ⟨e4,e5,e6,e7,rfl,rfl,_⟩
  rw [List.getElem?_map] at hi
  cases ht:(st.2 k)[i]? with
  | none=>rw [ht] at hi;cases hi
  | some y =>
   rw [ht] at hi;cases hi;have hil:i < (st.2 k).length:=(List.getElem?_eq_some_iff.mp ht).1;obtain ⟨_,h2,h3⟩:=hW.sg k y (List.mem_of_getElem? ht)
   have htk:sumsF ((st.2 k).take (i + 1))=sumsF ((st.2 k).take i)++[bT (fZ parts y.2.2)]:=by
    show List.map _ _=_;rw [List.take_add_one,ht,Option.toList_some,List.map_append];rfl
   rw [htk]
   have hlen:(sumsF ((st.2 k).take i)).length<=10000:=by
    show (List.map _ _).length<=_;rw [List.length_map,List.length_take];have:=hW.n4 k;omega
   generalize sumsF ((st.2 k).take i)=sm at *;simp! only [kO,j5,mN,hName,hZ];refine aH fun V2 hV2=>?_;simp only [aY,hName];have hzip:dE (parts.map fun l=>U.lst (bG l)) (y.2.2.map fun (n:Nat)=>U.int (n:Int))=(parts.zip y.2.2).map fun p=>U.tup [U.lst (bG p.1),U.int (p.2:Int)]:=Au _ _ _ _;refine jY (S:=⟨none,(parts.zip y.2.2).map fun p=>U.tup [U.lst (bG p.1),U.int (p.2:Int)]⟩) (M1:=mup M r (.lst (bG sm))) (bG (fZ parts y.2.2)) (fun R r=>by simp! only [AN,tN,hzip];exact r) (by simp [kY,fZ]) (by rw [List.length_map,List.length_zip];exact small (by omega)) (by intro a e;cases e) (fun j xx yy hxx hyy M' _ R r'=>?_) ?_
   ·rw [List.getElem?_map] at hxx
    rw [bG,fZ,List.map_map,List.getElem?_map] at hyy
    cases hz:(parts.zip y.2.2)[j]? with
    | none=>rw [hz] at hxx;cases hxx
    | some pr =>
     rw [hz] at hxx hyy;cases hxx;cases hyy;obtain ⟨hz1,hz2⟩:=AU hz;have hlp:=hpn _ (List.mem_of_getElem? hz1);have hd:=h2 _ (List.mem_of_getElem? hz2);obtain ⟨v,hv⟩:∃ v,pr.1[pr.2]?=some v:=⟨_,List.getElem?_eq_getElem (by omega)⟩;have hat:=vR hv;simp only [Function.comp,hv,Option.getD_some] at r';simp! only [kO,j5,mN,hName,hat];exact r'
   ·simp only [i7]
    subst hV2;simp! only [eK,lR];have hfl:=GQ (fZ parts y.2.2)
    cases hany:(bG (fZ parts y.2.2)).any (fun u=>uA u U.non) with
    | true =>
     have hs:=wV hany;simp! only [hfl,lE,hany];exact ⟨⟨_,bJ aD⟩,by rw [kY];exact big (by omega),_,_,_,_,rfl,by rw [hs,bG,bG,List.map_append];rfl,by omega⟩
    | false =>
     obtain ⟨ns,s,g1,g2,g3⟩:=w6 hany;simp! only [hfl,lE,hany,Ds,g1];exact ⟨⟨_,bJ aD⟩,by rw [kY];exact big (by omega),_,_,_,_,rfl,by rw [g2,g3,bG,bG,List.map_append];rfl,by omega⟩
 ·rintro τ' M' ⟨e4,e5,e6,e7,rfl,rfl,_⟩
  rw [show (Src.mk none ((st.2 k).map hZ)).xs.length=(st.2 k).length from List.length_map _,List.take_length];refine ⟨_,M,JK (i:=3) (a:=r) (u:=.lst (bG (sumsF (st.2 k)))) ((Sub.refl M).mup hr) (fun K H rm st=>mR rm aD hr st) rfl,?_⟩;show V _ _;subst hV;simp! only [bU];exact ⟨x,dx,cs,ps,lds,st,k,sumsF (st.2 k),rfl,hk,hx,hW,by show (List.map _ _).length<=_;rw [List.length_map];exact hW.n4 k,aU q⟩
structure Wg (cs:List Str) (ps:List Pt) (st:WT):Prop where
 lf:∀ r∈st.1,r.1 < cX cs ps/\(r.2.2=.any\/∃ l h,r.2.2=.fr l h)
 sg:∀ k,∀ r∈st.2 k,r.1 < cX cs ps/\(∀ d∈r.2.2,d < cX cs ps)/\r.2.2.length<=2
theorem Wg.add (h:Wg cs ps st) (hc:AL cs ps c) (hp:p.isHole=false) (hd:∀ a∈p.parts,AL cs ps (oQ a)):Wg cs ps (addW cs ps st c pr p):=by
 unfold addW;split
 ·rename_i hs
  refine ⟨fun r hr=>?_,h.sg⟩
  rcases List.mem_append.mp hr with hr | hr
  ·exact h.lf r hr
  ·cases List.mem_singleton.mp hr
   refine ⟨Ai hc,?_⟩
   cases p with
   | hole c=>cases hp
   | any=>exact .inl rfl
   | fr l h=>exact .inr ⟨l,h,rfl⟩
   | turn a=>cases hs
   | two o a b=>cases o <;> cases hs
 ·refine ⟨h.lf,fun k r hr=>?_⟩
  dsimp only at hr;split at hr
  ·rcases List.mem_append.mp hr with hr | hr
   ·exact h.sg k r hr
   ·cases List.mem_singleton.mp hr
    refine ⟨Ai hc,fun d hd'=>?_,?_⟩
    ·obtain ⟨a,ha,rfl⟩:=List.mem_map.mp hd'
     exact Ai (hd a ha)
    ·show (List.map _ _).length<=2
     rw [List.length_map];exact rW p
  ·exact h.sg k r hr
theorem EN {cs:List Str} {tls:List Tl} (hT:lW cs tls):∀ (l:List Tl) (st:WT) (n:Nat),(∀ t∈l,t∈tls)->Wg cs (aN tls) st->sZ st n->Wg cs (aN tls) (l.foldl (nH cs (aN tls)) st)/\sZ (l.foldl (nH cs (aN tls)) st) (n + l.length)
 | [],_,_,_,h,c=>⟨h,c⟩
 | t :: l,st,n,hl,h,c=>by
  have hX:=hT.all t (hl t List.mem_cons_self);rw [List.foldl_cons,List.length_cons]
  have key:Wg cs (aN tls) (nH cs (aN tls) st t)/\sZ (nH cs (aN tls) st t) (n + 1):=by
   unfold nH
   cases hh:t.k.pt.isHole with
   | true=>rw [if_pos rfl];exact ⟨h,by have:=c.1;omega,fun k=>by have:=c.2 k;omega⟩
   | false=>exact ⟨h.add ⟨hX.cls,hT.cls.ok _ hX.cls⟩ hh fun a ha=>yF hT (hl t List.mem_cons_self) (uQ ha a (vC a)),uB c⟩
  have:=EN hT l _ (n + 1) (fun x hx=>hl x (List.mem_cons_of_mem _ hx)) key.1 key.2
  rw [show n + (l.length + 1)=n + 1 + l.length by omega];exact this
theorem DF {cs:List Str} {tls:List Tl} (hT:lW cs tls):∀ (l:List Pt) (st:WT) (n:Nat),(∀ p∈l,p∈aN tls)->Wg cs (aN tls) st->sZ st n->Wg cs (aN tls) (l.foldl (oF cs (aN tls)) st)/\sZ (l.foldl (oF cs (aN tls)) st) (n + l.length)
 | [],_,_,_,h,c=>⟨h,c⟩
 | p :: l,st,n,hl,h,c=>by
  have hm:=hl p List.mem_cons_self;have hf:=Bg hT p hm;obtain ⟨t,ht,htl,hh⟩:=A6 hm;rw [List.foldl_cons,List.length_cons]
  have key:Wg cs (aN tls) (oF cs (aN tls) st p)/\sZ (oF cs (aN tls) st p) (n + 1) :=
   ⟨h.add ⟨hf,p,hm,SeqAt.eqv_refl _ (uL p hf.1)⟩ hh fun a ha=>yF hT ht (pE (mH htl) a ha),uB c⟩
  have:=DF hT l _ (n + 1) (fun x hx=>hl x (List.mem_cons_of_mem _ hx)) key.1 key.2
  rw [show n + (l.length + 1)=n + 1 + l.length by omega];exact this
theorem UH (hT:lW cs tls):Az cs (aN tls) (bB cs tls) (gB cs tls):=by
 have h0:Wg cs (aN tls) ([],fun _=>[]):=⟨fun r hr=>(by cases hr),fun k r hr=>(by cases hr)⟩;obtain ⟨h1,c1⟩:=EN hT tls ([],fun _=>[]) 0 (fun t h=>h) h0 ⟨Nat.le_refl _,fun _=>Nat.le_refl _⟩;obtain ⟨h2,c2⟩:=DF hT (aN tls) _ _ (fun t h=>h) h1 c1;have hp:=CO hT;have hc:=hT.cls.len;have ht:=hT.len;refine ⟨DJ,h2.lf,h2.sg,by unfold cX;omega,?_,by have:=c2.1;show (gB cs tls).1.length<=_;unfold gB;omega,fun k=>by have:=c2.2 k;show ((gB cs tls).2 k).length<=_;unfold gB;omega⟩
 have:=CI cs tls cs.length
 have h6:cs.length * cs.length<=36:=Nat.le_trans (Nat.mul_le_mul hc hc) (by decide);show (bB cs tls).length<=_;unfold bB;omega
def eT (l:List (Option Nat)):U:=.tup (bG l)
def o8 (cs:List Str) (ps:List Pt) (lds:List T3) (st:WT) (labs:List (List (Option Nat))):Wt->List (Option Nat)
 | .num n=>AO cs ps lds st (.num n)
 | .name s=>AO cs ps lds st (.name s)
 | .piece k=>(labs[k.toNat]?.getD [])++List.replicate ps.length none
 | _=>[]
def Wt.leafW:Wt->Bool
 | .turn _=>false
 | .two _ _ _=>false
 | _=>true
def BG (C:Addr):bE:=fun us M Q=>∃ (x dx pL:Addr) (cs:List Str) (ps:List Pt) (lds:List T3) (st:WT) (labs:List (List (Option Nat))) (t:Wt),us=[.ref x,t.toU,.ref pL]/\t.leafW=true/\t.good labs.length/\M x=some (.ins C dx (fA cs ps lds st))/\Az cs ps lds st/\M pL=some (.lst (labs.map eT))/\(∀ l∈labs,l.length=cs.length)/\Q (.lst (bG (o8 cs ps lds st labs t))) M
theorem Nt (F:cI K "known_prices" "known_prices" nZ f fd) (hm:mg "known_prices"=some (.ref f)) (c_Wiring:L2.fT K C) (n_columns:bL K C "columns") (bA:mg "len"=none) (nN:mg "list"=none) (Df:Callee P w K mg base 3 "leaf_prices" (B9 C) []):Callee P w K mg base 4 "known_prices" (BG C) []:=by
 refine bQ F hm sH (uD fun _ _ _ _ _ _ _ _ _=>rfl) (aE (cF (cB yY (aP (uv 1) aO) gL)
 (aJ (bC (aK Df (aA (uv 0) (aA (uv 1) aB)))))
 bO)
 (aE (aR 3 sH.nd (aP (uv 2) (aP (uv 1) aO)))
 (aJ (bC (cQ (own:=false) (wW (EO (own:=false)) nN (aA (uv 3) aB)) (gX (own:=false) (cG (own:=true) (aA lX aB)) (kE (fB eC bA (aA (cH c_Wiring n_columns (uv 0)) aB)) (fB eC bA (aA (uv 3) aB))))))))) ?_
 rintro us M Q ⟨x,dx,pL,cs,ps,lds,st,labs,t,rfl,hlf,hg,hx,hW,hL,hll,q⟩;refine ⟨rfl,?_⟩;obtain ⟨k1,k2,k3,k4,k5⟩:=j4 (cs:=cs) (ps:=ps) (lds:=lds) (st:=st);have hn:=hW.n1
 have w1:decide (Str.ofString "num"=Str.ofString "piece")=false:=by decide +kernel
 have w2:decide (Str.ofString "name"=Str.ofString "piece")=false:=by decide +kernel
 have w3:decide (Str.ofString "piece"=Str.ofString "piece")=true:=by decide +kernel
 refine aH fun V hV=>?_;refine bX fun A B hA hB=>?_
 cases t with
 | turn a=>cases hlf
 | two o a b=>cases hlf
 | num n =>
  simp! only [Wt.toU,w1];subst hA;simp! only [bU,Wt.toU];exact ⟨x,dx,cs,ps,lds,st,.num n,rfl,hx,hW,aU q⟩
 | name n =>
  simp! only [Wt.toU,w2];subst hA;simp! only [bU,Wt.toU];exact ⟨x,dx,cs,ps,lds,st,.name n,rfl,hx,hW,aU q⟩
 | piece k =>
  have hk1:0<=k:=hg.1;have hk2:k < labs.length:=hg.2;obtain ⟨lb,hlb⟩:∃ lb,labs[k.toNat]?=some lb:=⟨_,List.getElem?_eq_getElem (by omega)⟩;have hlen:=hll lb (List.mem_of_getElem? hlb)
  have hat:dH (labs.map eT) k=some (eT lb):=by
   have:=fK (xs:=labs.map eT) (j:=k.toNat) (v:=eT lb) (by rw [List.getElem?_map,hlb];rfl)
   rw [Int.toNat_of_nonneg hk1] at this;exact this
  simp! only [Wt.toU,w3];subst hB;simp only [cE];subst hV;refine aH fun V hV=>?_;simp! only [aY,hName,Wt.toU,bJ hL,hat];subst hV
  have f2:cK C (Str.ofString "columns") (.ref x) M=some (.lst (eG cs ps)):=(bS hx).trans k2
  simp! only [bU,eT,fX,kY];have hcn:cX cs ps=cs.length + ps.length:=rfl;refine fun t1 ht1=>?_;have ext:x≠t1:=fun z=>by rw [<- z,hx] at ht1;cases ht1
  have f2':cK C (Str.ofString "columns") (.ref x) (mup M t1 (.lst [.non]))=some (.lst (eG cs ps)):=(bS (by rw [aF ext];exact hx)).trans k2
  have e1:((cX cs ps:Int) - (lb.length:Int)).toNat=ps.length:=by omega
  simp! only [f2',u5,e1,xD,kY,List.length_replicate];refine ⟨by omega,by omega,small (by omega),small (by omega),?_⟩;have e2:o8 cs ps lds st labs (.piece k)=lb++List.replicate ps.length none:=by simp only [o8,hlb,Option.getD_some]
  rw [e2] at q;refine ⟨_,M,(Sub.refl M).mup ht1,.inl rfl,?_⟩;rw [bG,bG,<- List.map_append];exact q
def Op.ix:Op->Nat
 | .sum=>1
 | .less=>2
 | .by_=>3
theorem Op.ix_word (o:Op):vJ o.ix=o.word:=by cases o <;> rfl
theorem Op.ix_lt (o:Op):o.ix < 4:=by cases o <;> decide
def lT (kn:Wt->List (Option Nat)) (sg:Nat->List (List (Option Nat))->List (Option Nat)):Wt->List (Option Nat)
 | .turn a=>sg 0 [lT kn sg a]
 | .two o a b=>sg o.ix [lT kn sg a,lT kn sg b]
 | t=>kn t
def An (M:aG) (N:Nat) (m:Int) (s s':bE) (kn:Wt->List (Option Nat)) (sg:Nat->List (List (Option Nat))->List (Option Nat)):Prop :=
 (∀ (t:Wt) (M':aG) (Q':UK),Sub M M'->t.leafW=true->t.good m->Q' (.lst (bG (kn t))) M'->s [t.toU] M' Q') /\
 (∀ (k:Nat) (parts:List (List (Option Nat))) (M':aG) (Q':UK),Sub M M'->k < 4->parts.length<=2->(∀ l∈parts,l.length=N)->Q' (.lst (bG (sg k parts))) M'->s' [.str (vJ k),tN parts] M' Q') /\
 (∀ t,t.leafW=true->t.good m->(kn t).length=N)/\∀ k parts,(sg k parts).length=N
variable {s s':bE} {N:Nat} {m:Int} {kn:Wt->List (Option Nat)} {sg:Nat->List (List (Option Nat))->List (Option Nat)}
theorem BF (h:An M N m s s' kn sg):∀ t:Wt,t.good m->(lT kn sg t).length=N
 | .num n,g=>h.2.2.1 (.num n) rfl g
 | .name n,g=>h.2.2.1 (.name n) rfl g
 | .piece n,g=>h.2.2.1 (.piece n) rfl g
 | .turn a,_=>h.2.2.2 _ _
 | .two o a b,_=>h.2.2.2 _ _
theorem An.sub {M1:aG} (h:An M N m s s' kn sg) (hs:Sub M M1):An M1 N m s s' kn sg :=
 ⟨fun t M' Q' h1=>h.1 t M' Q' fun b mo e=>h1 b mo (hs b mo e),fun k p M' Q' h1=>h.2.1 k p M' Q' fun b mo e=>h1 b mo (hs b mo e),h.2.2⟩
def uH (n:Nat) (fl:Addr) (s:bE) (fs:Addr) (s':bE):bE:=fun us M Q=>∃ (t:Wt) (N:Nat) (m:Int) (kn:Wt->List (Option Nat)) (sg:Nat->List (List (Option Nat))->List (Option Nat)),us=[t.toU,.ref fl,.ref fs]/\t.dep<=n/\t.good m/\An M N m s s' kn sg/\Q (.lst (bG (lT kn sg t))) M
theorem N0 (t:Wt):1<=t.dep:=by cases t <;> simp [Wt.dep]
theorem Qp {fs:Addr} (F:cI K "reckoned" "reckoned" qC f fd) (hm:mg "reckoned"=some (.ref f)) (fO:kR P w K d cY) (fF:mg "SIGNS"=some (.ref d)) (A_of_leaf:fM P w K mg base 5 fl s) (A_of_sign:fM P w K mg base 5 fs s') (dD:Callee P w K mg base 1 "parts_of" j0 []) (uT:Callee P w K mg base (n + 6) "reckoned" (uH n fl s fs s') []):Callee P w K mg base (n + 7) "reckoned" (uH (n + 1) fl s fs s') []:=by
 refine bQ F hm Fx (uD fun _ _ _ _ _ _ _ _ _=>rfl) (aE (cF (cB (II fO) (aP (uv 0) aO) (A5 fF))
 (aJ (bC (EW 1 A_of_leaf (aA (uv 0) aB))))
 bO)
 (aJ (bC (EW 2 A_of_sign (aA (aP (uv 0) aO) (aA (nY false ["part","of_leaf","of_sign"] 1 [1,2] (eA (aK dD (aA (uv 0) aB))) (aX (k:=1) 0 (by dsimp only [bZ];decide +kernel)) lH (aK uT (aA (uv 0) (aA (uv 1) (aA (uv 2) aB))))) aB)))))) ?_
 rintro us M Q ⟨t,N,m,kn,sg,rfl,hd,hg,hR,q⟩;refine ⟨rfl,?_⟩
 have hc:∀ (z:Str) (pp:List Wt),(cJ cY z).isSome=true->t.toU=.tup (.str z :: pp.map Wt.toU)->pp.length<=2->(∀ a∈pp,a.dep<=n/\a.good m) ->
   ∀ R:UK,R (tN (pp.map (lT kn sg))) M->sO false 1 [1,2] (p8 (oW j0 [] (mE (mW 0) sU))) (hName 0) (fun x M Q=>Q true M) (oW (uH n fl s fs s') [] (mE (mW 0) (mE (mW 1) (mE (mW 2) sU)))) [some t.toU,some (U.ref fl),some (U.ref fs)] M R:=by
  intro z pp hz e h2 hp R r
  refine jY (S:=⟨none,pp.map Wt.toU⟩) (M1:=M) ((pp.map (lT kn sg)).map fun l=>U.lst (bG l)) (fun R r=>by
    simp! only [e]
    exact ⟨z,_,true,rfl,hz,by rw [List.length_map];omega,r⟩) (by simp) (by rw [List.length_map];exact small (by omega)) (by intro a e;cases e) (fun i x y hx hy M' hS R r=>?_) r
  rw [List.getElem?_map] at hx;rw [List.map_map,List.getElem?_map] at hy
  cases ha:pp[i]? with
  | none=>rw [ha] at hx;cases hx
  | some a =>
   rw [ha] at hx hy;cases hx;cases hy;obtain ⟨a1,a2⟩:=hp a (List.mem_of_getElem? ha);simp! only [hName];exact ⟨a,N,m,kn,sg,rfl,a1,a2,hR.sub hS,r⟩
 refine aH fun V hV=>?_;refine bX fun A B hA hB=>?_
 have s1:(cJ cY (Str.ofString "num")).isSome=false:=by kernel_rfl
 have s2:(cJ cY (Str.ofString "name")).isSome=false:=by kernel_rfl
 have s3:(cJ cY (Str.ofString "piece")).isSome=false:=by kernel_rfl
 have leaf:t.leafW=true->(A M):=fun h=>by
  subst hA;simp! only [bU]
  have e:lT kn sg t=kn t:=by cases t <;> first | rfl | cases h
  rw [e] at q;exact hR.1 t M _ (Sub.refl M) h hg (aU q)
 cases t with
 | num k =>
  simp! only [Wt.toU,dF,s1];exact leaf rfl
 | name k =>
  simp! only [Wt.toU,dF,s2];exact leaf rfl
 | piece k =>
  simp! only [Wt.toU,dF,s3];exact leaf rfl
 | turn a =>
  have st1:(cJ cY (Str.ofString "turn")).isSome=true:=by kernel_rfl
  simp! only [Wt.toU,dF,st1];subst hB;simp only [cE];subst hV;simp only [Wt.dep] at hd;have hlen:=BF hR a hg;simp! only [bU,Wt.toU]
  refine hc (Str.ofString "turn") [a] st1 rfl (by simp) (fun b hb=>by cases List.mem_singleton.mp hb;exact ⟨by omega,hg⟩) _ ?_
  exact hR.2.1 0 [lT kn sg a] M _ (Sub.refl M) (by omega) (by simp) (fun l hl=>by cases List.mem_singleton.mp hl;exact hlen) (aU q)
 | two o a b =>
  have st1:(cJ cY o.word).isSome=true:=by cases o <;> kernel_rfl
  simp! only [Wt.toU,dF,st1];subst hB;simp only [cE];subst hV;simp only [Wt.dep] at hd;have hlen:=BF hR a hg.1;have hlen2:=BF hR b hg.2;simp! only [bU,Wt.toU];refine hc o.word [a,b] st1 rfl (by simp) (fun c hb=>?_) _ ?_
  ·have hb':c=a\/c=b:=by simpa using hb
   rcases hb' with rfl | rfl
   ·exact ⟨by omega,hg.1⟩
   ·exact ⟨by omega,hg.2⟩
  ·rw [<- o.ix_word]
   refine hR.2.1 o.ix [lT kn sg a,lT kn sg b] M _ (Sub.refl M) o.ix_lt (by simp) (fun l hl=>?_) (aU q);have hl':l=lT kn sg a\/l=lT kn sg b:=by simpa using hl
   rcases hl' with rfl | rfl
   ·exact hlen
   ·exact hlen2
theorem EX {fs:Addr} {s s':bE} (F:cI K "reckoned" "reckoned" qC f fd) (hm:mg "reckoned"=some (.ref f)) (fO:kR P w K d cY) (fF:mg "SIGNS"=some (.ref d)) (A_of_leaf:fM P w K mg base 5 fl s) (A_of_sign:fM P w K mg base 5 fs s') (dD:Callee P w K mg base 1 "parts_of" j0 []):∀ n,Callee P w K mg base (n + 6) "reckoned" (uH n fl s fs s') []
 | 0=>by
  have no:∀ us M Q,¬ uH 0 fl s fs s' us M Q:=fun us M Q h=>by
   obtain ⟨t,_,_,_,_,_,h,_⟩:=h
   have:=N0 t
   omega
  refine ⟨f,fd,["shape","of_leaf","of_sign"],[],[],⟨fun vs H Q E h=>?_,fun A outer s H args us vs Q E _ _ _ _ h=>?_⟩,hm,F.kp,F.binds (uD fun _ _ _ _ _ _ _ _ _=>rfl),.nil,fun H M=>.nil⟩
  ·obtain ⟨us,M,Q',_,_,h,_⟩:=h;exact absurd h (no us M Q')
  ·obtain ⟨us,M,Q',_,_,h,_⟩:=h;exact absurd h (no us M Q')
 | n + 1=>Qp F hm fO fF A_of_leaf A_of_sign dD (EX F hm fO fF A_of_leaf A_of_sign dD n)
def QT:Str:=Str.ofString "tree_label"++Str.ofString ".<locals>."++Str.ofString "<lambda>"
section
variable (cs:List Str) (ps:List Pt) (lds:List T3) (st:WT)
def gY (labs:List (List (Option Nat))) (t:Wt):List (Option Nat):=lT (o8 cs ps lds st labs) (iU cs ps lds st) t
def eE (labs:List (List (Option Nat))) (t:Wt):List (Option Nat):=(gY cs ps lds st labs t).take cs.length
end
variable {labs:List (List (Option Nat))}
theorem xN (hll:∀ l∈labs,l.length=cs.length) (t:Wt) (h:t.leafW=true) (g:t.good labs.length):(o8 cs ps lds st labs t).length=cX cs ps:=by
 cases t with
 | turn a=>cases h
 | two o a b=>cases h
 | num n=>exact Cw _
 | name n=>exact Cw _
 | piece k =>
  obtain ⟨lb,hlb⟩:∃ lb,labs[k.toNat]?=some lb:=⟨_,List.getElem?_eq_getElem (by have:=g.1;have:=g.2;omega)⟩;simp only [o8,hlb,Option.getD_some,List.length_append,List.length_replicate,hll lb (List.mem_of_getElem? hlb)];rfl
theorem Ee (h1:∀ t,t.leafW=true->t.good m->(kn t).length=N) (h2:∀ k parts,(sg k parts).length=N):∀ t:Wt,t.good m->(lT kn sg t).length=N
 | .num n,g=>h1 (.num n) rfl g
 | .name n,g=>h1 (.name n) rfl g
 | .piece n,g=>h1 (.piece n) rfl g
 | .turn a,_=>h2 _ _
 | .two o a b,_=>h2 _ _
theorem uN (hll:∀ l∈labs,l.length=cs.length) {t:Wt} (g:t.good labs.length):(eE cs ps lds st labs t).length=cs.length:=by
 unfold eE gY;rw [List.length_take,Ee (N:=cX cs ps) (xN hll) (fun k p=>v8 k p) t g];unfold cX;omega
def Cd (C Pt0:Addr):bE:=fun us M Q=>∃ (x dx pL:Addr) (cs:List Str) (ps:List Pt) (lds:List T3) (st:WT) (labs:List (List (Option Nat))) (t:Wt),us=[.ref x,t.toU,.ref pL]/\t.dep<=10/\t.good labs.length/\M x=some (.ins C dx (fA cs ps lds st))/\Az cs ps lds st/\M pL=some (.lst (labs.map eT))/\(∀ l∈labs,l.length=cs.length)/\M Pt0=some (.tbl QT)/\Q (eT (eE cs ps lds st labs t)) M
variable {Pt0:Addr}
theorem C5 {c0 frk:Addr} (F:cI K "tree_label" "tree_label" eO f fd) (hfd:fd.code=.ref c0) (hm:mg "tree_label"=some (.ref f)) (hK:PySem.W.codeHdIn K c0 Pt0=true) (hB:h9 base mg) (c_Wiring:L2.fT K C) (n_classes:bL K C "classes") (bA:mg "len"=none) (gU:mg "tuple"=none) (lB:mg "reckoned"=some (.ref frk)) (k_reckoned:PySem.W.keepIn K (.ref frk)=true)
  (uT:∀ (base:Heap) (fl:Addr) (s:bE) (fl':Addr) (s':bE),h9 base mg->fM P w K mg base 5 fl s->fM P w K mg base 5 fl' s'->Callee P w K mg base 16 "reckoned" (uH 10 fl s fl' s') []) (CL_known_prices:∀ base,h9 base mg->Callee P w K mg base 4 "known_prices" (BG C) []) (CL_sign_prices:∀ base,h9 base mg->Callee P w K mg base 4 "sign_prices" (Bo C) []):Callee P w K mg base 17 "tree_label" (Cd C Pt0) []:=by
 refine IW F hfd hm vY (uD fun _ _ _ _ _ _ _ _ _=>rfl) (fun us M Q h=>by obtain ⟨_,_,_,_,_,_,_,_,_,rfl,_⟩:=h;rfl) (aE (aR 3 vY.nd (O5 (P:=Pt0) (q:=QT) 4 ["leaf","wiring","labels"] ["leaf"] [0,2] ["word","parts","wiring"] ["word","parts"] [0] lB k_reckoned uT hB (OR (uv 1) (Jr (P:=Pt0) (q:=QT) hK hB (Jr (P:=Pt0) (q:=QT) hK hB Rb))) (fun base hBm=>(aK (CL_known_prices base hBm) (aA (uv 1) (aA (uv 0) (aA (uv 2) aB))) (hj:=by dsimp only [DG];omega))) (fun base hBm=>(aK (CL_sign_prices base hBm) (aA (uv 2) (aA (uv 0) (aA (uv 1) aB))) (hj:=by dsimp only [DG];omega)))))
 (aJ (bC (wW t5 gU (aA (t9 (own:=false) (uv 3) qP (qM (fB eC bA (aA (cH c_Wiring n_classes (uv 0)) aB)))) aB))))) ?_
 rintro us M Q ⟨x,dx,pL,cs,ps,lds,st,labs,t,rfl,hd,hg,hx,hW,hL,hll,hP,q⟩;obtain ⟨k1,k2,k3,k4,k5⟩:=j4 (cs:=cs) (ps:=ps) (lds:=lds) (st:=st);have exP:x≠Pt0:=fun z=>by rw [z,hP] at hx;cases hx
 have eLP:pL≠Pt0:=fun z=>by rw [z,hP] at hL;cases hL
 refine aH fun V hV=>?_;simp! only [aY,hName,t8,DC,Hd,HS,Oh];have hxd:jZ M Pt0 x=some (.ins C dx (fA cs ps lds st)):=by rw [lC exP];exact hx
 have hLd:jZ M Pt0 pL=some (.lst (labs.map eT)):=by rw [lC eLP];exact hL
 refine ⟨hP,fun fl=>⟨hP,fun fs=>⟨hP,fun u hu=>?_,fun u hu=>?_,fun hno=>⟨t,cX cs ps,(labs.length:Int),o8 cs ps lds st labs,iU cs ps lds st,rfl,hd,hg,⟨?_,?_,xN hll,fun k p=>v8 k p⟩,hno,?_⟩⟩⟩⟩
 ·have hu':some u∈[some (U.ref x),some (U.ref pL)]:=hu
  rcases List.mem_cons.mp hu' with e | e
  ·cases e;trivial
  ·cases List.mem_singleton.mp e;trivial
 ·have hu':some u∈[some (U.ref x)]:=hu
  cases List.mem_singleton.mp hu';trivial
 ·intro t' M' Q' hs h1 h2 h3
  refine ⟨rfl,?_⟩;simp! only [pH];exact ⟨x,dx,pL,cs,ps,lds,st,labs,t',rfl,h1,h2,hs _ _ hxd,hW,hs _ _ hLd,hll,h3⟩
 ·intro k parts M' Q' hs h1 h2 h3 h4
  refine ⟨rfl,?_⟩;simp! only [pH];exact ⟨x,dx,cs,ps,lds,st,k,parts,rfl,h1,hs _ _ hxd,hW,h2,h3,h4⟩
 ·have eM:mup (jZ M Pt0) Pt0 (.tbl QT)=M:=by
   funext b
   by_cases hb:b=Pt0
   ·rw [hb,aD,hP]
   ·rw [aF hb,lC hb]
  rw [eM];subst hV
  have f1:cK C (Str.ofString "classes") (.ref x) M=some (aW cs):=(bS hx).trans k1
  have hrl:=Ee (N:=cX cs ps) (xN (lds:=lds) (st:=st) hll) (fun k p=>v8 (cs:=cs) (ps:=ps) (lds:=lds) (st:=st) k p) t hg
  have hcut:jT (bG (lT (o8 cs ps lds st labs) (iU cs ps lds st) t)) none (some (cs.length:Int))=bG (eE cs ps lds st labs t):=by
   rw [bG,BJ,DQ _ (by rw [hrl];unfold cX;omega)];rfl
  simp! only [bU,fX,f1,aW,List.length_map,hcut];exact aU q
def iS (cs:List Str) (ps:List Pt) (lds:List T3) (st:WT) (ts:List Wt):List (List (Option Nat)):=ts.foldl (fun acc t=>acc++[eE cs ps lds st acc t]) []
theorem sE (cs:List Str) (ps:List Pt) (lds:List T3) (st:WT) (ts:List Wt) (t:Wt):iS cs ps lds st (ts++[t])=iS cs ps lds st ts++[eE cs ps lds st (iS cs ps lds st ts) t]:=by
 unfold iS;rw [List.foldl_append];rfl
theorem tV {cs:List Str} {ps:List Pt} {lds:List T3} {st:WT} {ts:List Wt} (hts:∀ (i:Nat) (t:Wt),ts[i]?=some t->t.good i):∀ i,i<=ts.length->(iS cs ps lds st (ts.take i)).length=i/\∀ l∈iS cs ps lds st (ts.take i),l.length=cs.length
 | 0,_=>⟨rfl,fun l hl=>by cases hl⟩
 | i + 1,hi=>by
  obtain ⟨h1,h2⟩:=tV hts i (by omega);have ht:ts[i]?=some ts[i]:=List.getElem?_eq_getElem (by omega);rw [List.take_add_one,ht,Option.toList_some,sE];refine ⟨by rw [List.length_append,h1];rfl,fun l hl=>?_⟩
  rcases List.mem_append.mp hl with hl | hl
  ·exact h2 l hl
  ·cases List.mem_singleton.mp hl
   exact uN h2 (by rw [h1];exact hts i _ ht)
def kC (cs:List Str) (tls:List Tl) (ts:List Wt):List (List (Option Nat)):=iS cs (aN tls) (bB cs tls) (gB cs tls) ts
structure Gp (ts:List Wt):Prop where
 len:ts.length<=70
 ok:∀ (i:Nat) (t:Wt),ts[i]?=some t->t.good i
 dep:∀ t∈ts,t.dep<=10
def k9 (ts:List Wt):U:=.tup (ts.map Wt.toU)
def Jm (C Pt0:Addr):bE:=fun us M Q=>∃ (cs:List Str) (tls:List Tl) (ts:List Wt),us=[dP cs tls,k9 ts]/\lW cs tls/\Gp ts/\M Pt0=some (.tbl QT)/\∀ p,M p=none->Q (.ref p) (mup M p (.lst ((kC cs tls ts).map eT)))
theorem Dg (F:cI K "web_labels" "web_labels" qS f fd) (hm:mg "web_labels"=some (.ref f)) (K_Wiring:oJ P w K mg base 9 "Wiring" C (B7 C)) (rM:Callee P w K mg base 17 "tree_label" (Cd C Pt0) []):Callee P w K mg base 18 "web_labels" (Jm C Pt0) []:=by
 refine bQ F hm mF (rQ fun _ _ _ _ _ _ _ _=>rfl) (aE (aR 2 mF.nd (Cb K_Wiring (aA (uv 0) aB)))
 (aE (aR 3 mF.nd (cG (own:=true) aB))
 (aE (eI (eA (uv 1)) (aX (k:=1000) 4 mF.nd)
 (aJ (dM (jW (uv 3) (aA (aK rM (aA (uv 2) (aA (uv 4) (aA (uv 3) aB)))) aB)))))
 (aJ (bC (uv 3)))))) ?_
 rintro us M Q ⟨cs,tls,ts,rfl,hT,hWb,hP,q⟩;refine ⟨rfl,?_⟩;refine aH fun V hV=>?_;simp! only [aY,hName,AY];refine fun x dx hx hdx ne=>⟨x,dx,cs,tls,rfl,aD,hT,rfl,?_⟩;rw [aZ];have hW:=UH hT;generalize hps:aN tls=ps at *;generalize hld:bB cs tls=lds at *;generalize hst:gB cs tls=st at *;generalize hM1:mup M x (.ins C dx (fA cs ps lds st))=M1;have hx1:M1 x=some (.ins C dx (fA cs ps lds st)):=by rw [<- hM1,aD]
 have hs1:Sub M M1:=by rw [<- hM1];exact (Sub.refl M).mup hx
 subst hV;refine aH fun V hV=>?_;simp! only [aY,hName];refine fun r hr=>?_;have exr:x≠r:=fun z=>by rw [<- z,hx1] at hr;cases hr
 have hMr:M r=none:=by
  cases h:M r with
  | none=>rfl
  | some mo=>rw [hs1 r mo h] at hr;cases hr
 have erP:Pt0≠r:=fun z=>by rw [z,hMr] at hP;cases hP
 subst hV;refine aH fun V hV=>?_
 refine eP (S:=⟨none,ts.map Wt.toU⟩) (M1:=mup M1 r (.lst [])) (fun R r=>by simp! only [k9];exact r)
  (fun i τ' M'=>∃ (e4:Option U),τ'=[some (dP cs tls),some (k9 ts),some (.ref x),some (.ref r),e4]/\M'=mup M1 r (.lst ((iS cs ps lds st (ts.take i)).map eT))/\i<=ts.length)
  ⟨none,rfl,rfl,Nat.zero_le _⟩ (fun i τ' M' _=>fun a e=>by cases e) ?_ ?_
 ·rintro i v τ' M' hi ⟨e4,rfl,rfl,_⟩
  rw [List.getElem?_map] at hi
  cases ht:ts[i]? with
  | none=>rw [ht] at hi;cases hi
  | some t =>
   rw [ht] at hi;cases hi;have hil:i < ts.length:=(List.getElem?_eq_some_iff.mp ht).1;have h10:=hWb.len;obtain ⟨g1,g2⟩:=tV (cs:=cs) (ps:=ps) (lds:=lds) (st:=st) hWb.ok i (by omega);rw [List.take_add_one,ht,Option.toList_some,sE];generalize iS cs ps lds st (ts.take i)=labs at *;simp! only [hName,eK];refine ⟨⟨_,bJ aD⟩,x,dx,r,cs,ps,lds,st,labs,t,rfl,hWb.dep t (List.mem_of_getElem? ht),by rw [g1];exact hWb.ok i t ht,by rw [aF exr];exact hx1,hW,aD,g2,by rw [aF erP];exact hs1 _ _ hP,?_⟩;simp! only [true_and];refine ⟨by rw [List.length_map];exact big (by omega),_,rfl,?_,by omega⟩;rw [List.map_append];rfl
 ·rintro τ' M' ⟨e4,rfl,rfl,_⟩
  rw [show (Src.mk none (ts.map Wt.toU)).xs.length=ts.length from List.length_map _,List.take_length];show V _ _;subst hV;simp! only [bU];have e:kC cs tls ts=iS cs ps lds st ts:=by unfold kC;rw [hps,hld,hst]
  rw [e] at q;refine ⟨_,_,fun b mo hb=>?_,.inl rfl,q r hMr⟩
  by_cases e2:b=r
  ·subst e2;rw [aD] at hb ⊢;exact hb
  ·rw [aF e2] at hb ⊢;exact hs1 b mo hb
def Bz:bE:=fun us M Q=>∃ l:List (Option Nat),us=[.lst (bG l)]/\Q (oN (bT l)) M
theorem MA (F:cI K "total" "total" BO f fd) (hm:mg "total"=some (.ref f)) (yE:mg "sum"=none):Callee P w K mg base 1 "total" Bz []:=by
 refine bQ F hm Lz (CA fun _ _ _ _ _ _ _=>rfl) (aJ (bC (Dt (cB S7 lX (uv 0)) lX (fB JW yE (aA (uv 0) aB))))) ?_;rintro us M Q ⟨l,rfl,q⟩;refine ⟨rfl,?_⟩;have hfl:=GQ l;simp! only [bU,lR]
 cases hany:(bG l).any (fun u=>uA u U.non) with
 | true =>
  have hs:=wV hany;rw [hs] at q;simp! only [hfl,lE,hany];exact aU q
 | false =>
  obtain ⟨ns,s,g1,g2,g3⟩:=w6 hany;rw [g3] at q;simp! only [hfl,lE,hany,Ds,g1,g2];exact aU q
def nF (cs:List Str) (ps:List Pt) (lds:List T3) (s:Str):List (Option Nat):=(lF lds ((fN cs ps).set (eY cs s) (some 0))).take cs.length
def KR (C:Addr):bE:=fun us M Q=>∃ (x dx:Addr) (cs:List Str) (ps:List Pt) (lds:List T3) (st:WT) (s:Str),us=[.ref x,.str s]/\s∈cs/\M x=some (.ins C dx (fA cs ps lds st))/\Az cs ps lds st/\Q (eT (nF cs ps lds s)) M
theorem PJ (F:cI K "kept_label" "kept_label" rL f fd) (hm:mg "kept_label"=some (.ref f)) (c_Wiring:L2.fT K C) (n_columns:bL K C "columns") (n_classes:bL K C "classes") (bA:mg "len"=none) (gU:mg "tuple"=none) (kH:Callee P w K mg base 2 "with_passes" (tL C) []):Callee P w K mg base 3 "kept_label" (KR C) []:=by
 refine bQ F hm vX (rQ fun _ _ _ _ _ _ _ _=>rfl) (aE (aR 2 vX.nd (gX (own:=true) (cG (own:=true) (aA lX aB)) (fB eC bA (aA (cH c_Wiring n_columns (uv 0)) aB))))
 (aE (tM aO (uv 2) (pA (cH c_Wiring n_classes (uv 0)) (aA (uv 1) aB)))
 (aJ (bC (wW t5 gU (aA (t9 (own:=false) (aK kH (aA (uv 0) (aA (uv 2) aB))) qP (qM (fB eC bA (aA (cH c_Wiring n_classes (uv 0)) aB)))) aB)))))) ?_
 rintro us M Q ⟨x,dx,cs,ps,lds,st,s,rfl,hs,hx,hW,q⟩;refine ⟨rfl,?_⟩;obtain ⟨k1,k2,k3,k4,k5⟩:=j4 (cs:=cs) (ps:=ps) (lds:=lds) (st:=st);have hn:=hW.n1;refine aH fun V hV=>?_;simp! only [aY,hName,fX];refine fun t1 ht1=>?_;have ext:x≠t1:=fun z=>by rw [<- z,hx] at ht1;cases ht1
 have f2:cK C (Str.ofString "columns") (.ref x) (mup M t1 (.lst [.non]))=some (.lst (eG cs ps)):=(bS (by rw [aF ext];exact hx)).trans k2
 simp! only [f2,u5];refine ⟨by omega,by omega,by rw [Int.toNat_natCast];exact small (by omega),?_⟩;rw [Int.toNat_natCast,xD];refine fun r hr=>?_;have etr:t1≠r:=fun z=>by rw [<- z,aD] at hr;cases hr
 have hMr:M r=none:=by rw [aF etr.symm] at hr;exact hr
 have exr:x≠r:=fun z=>by rw [<- z,hx] at hMr;cases hMr
 have e0:List.replicate (cX cs ps) none=fN cs ps:=rfl;rw [e0];generalize hM1:mup M t1 (.lst [U.non])=M1 at *;have hsub:Sub M M1:=by rw [<- hM1];exact (Sub.refl M).mup ht1
 have hx1:M1 x=some (.ins C dx (fA cs ps lds st)):=hsub _ _ hx;have hix:=(pF hs).1;subst hV;refine aH fun V hV=>?_
 have f1:cK C (Str.ofString "classes") (.ref x) (mup M1 r (.lst (bG (fN cs ps))))=some (aW cs):=(bS (by rw [aF exr];exact hx1)).trans k1
 simp! only [oV,BN,fX,f1,aW];refine ⟨⟨_,rfl⟩,wU hs ?_⟩;simp! only [kY,iZ];refine ⟨eY cs s,Bw (by unfold cX;omega),?_⟩;rw [show (U.int 0)=U.int ((0:Nat):Int) from rfl,E8];subst hV;simp! only [bU,fX];refine ⟨x,dx,r,cs,ps,lds,st,(fN cs ps).set (eY cs s) (some 0),rfl,by rw [aF exr];exact hx1,hW,aD,by rw [List.length_set,iZ],?_⟩
 have f1':cK C (Str.ofString "classes") (.ref x) (mup M1 r (.lst (bG ((fN cs ps).set (eY cs s) (some 0)))))=some (aW cs):=(bS (by rw [aF exr];exact hx1)).trans k1
 have hcut:jT (bG (lF lds ((fN cs ps).set (eY cs s) (some 0)))) none (some (cs.length:Int))=bG (nF cs ps lds s):=by
  rw [bG,BJ,DQ _ (by rw [k8,List.length_set,iZ];unfold cX;omega)];rfl
 simp! only [f1',aW,List.length_map,hcut];exact ⟨_,M,hsub.mup hMr,.inl rfl,q⟩
theorem Ag {s:Str}:(nF cs ps lds s).length=cs.length:=by
 unfold nF;rw [List.length_take,k8,List.length_set,iZ];unfold cX;omega
def jV:Option Str->U
 | none=>.non
 | some s=>.str s
def kZ (l:List (Option Nat)) (i:Nat):Option Nat:=l[i]?.getD none
abbrev FS:=Option Nat × List (List (Option Nat))
def kS (cs:List Str) (ps:List Pt) (lds:List T3) (c:FS) (own:List (Option Nat)):Option Str->FS
 | none=>(c.1,c.2++[own])
 | some s=>(bT [c.1,kZ own (eY cs s)],c.2++[nF cs ps lds s])
def xS (c:Option Nat) (r:Addr):U:=.tup [oN c,.ref r]
def EZ (C:Addr):bE:=fun us M Q=>∃ (x dx r:Addr) (cs:List Str) (ps:List Pt) (lds:List T3) (st:WT) (c:FS) (own:List (Option Nat)) (k:Option Str),us=[.ref x,xS c.1 r,eT own,jV k]/\(∀ s,k=some s->s∈cs)/\M x=some (.ins C dx (fA cs ps lds st))/\Az cs ps lds st/\M r=some (.lst (c.2.map eT))/\c.2.length<=100/\own.length=cs.length /\
 ∀ r',M r'=none->Q (xS (kS cs ps lds c own k).1 r') (mup M r' (.lst ((kS cs ps lds c own k).2.map eT)))
theorem Ll (F:cI K "behind_choice" "behind_choice" m3 f fd) (hm:mg "behind_choice"=some (.ref f)) (c_Wiring:L2.fT K C) (n_classes:bL K C "classes") (Bp:Callee P w K mg base 1 "total" Bz []) (DO:Callee P w K mg base 3 "kept_label" (KR C) []):Callee P w K mg base 4 "behind_choice" (EZ C) []:=by
 refine bQ F hm qV (Sn fun _ _ _ _ _ _ _ _ _ _=>rfl) (aE (cF (cB G9 (uv 3) lX)
 (aJ (bC (bN (aA (aP (uv 1) aO) (aA (cQ (own:=true) (aP (uv 1) aO) (cG (own:=false) (aA (uv 2) aB))) aB)))))
 bO)
 (aE (aR 4 qV.nd (aK Bp (aA (cG (own:=false) (aA (aP (uv 1) aO) (aA (aP (uv 2) (pA (cH c_Wiring n_classes (uv 0)) (aA (uv 3) aB))) aB))) aB)))
 (aJ (bC (bN (aA (uv 4) (aA (cQ (own:=true) (aP (uv 1) aO) (cG (own:=false) (aA (aK DO (aA (uv 0) (aA (uv 3) aB))) aB))) aB))))))) ?_
 rintro us M Q ⟨x,dx,r,cs,ps,lds,st,c,own,k,rfl,hk,hx,hW,hr,hcl,hol,q⟩;refine ⟨rfl,?_⟩;obtain ⟨k1,k2,k3,k4,k5⟩:=j4 (cs:=cs) (ps:=ps) (lds:=lds) (st:=st);refine aH fun V hV=>?_;refine bX fun A B hA hB=>?_
 cases k with
 | none =>
  simp! only [jV];subst hA;simp! only [bU,xS,bJ hr];refine ⟨by rw [List.length_map];exact small (by omega),fun r' hr'=>?_⟩
  have:=q r' hr'
  simp only [kS,List.map_append] at this;exact aU this
 | some s =>
  have hs:=hk s rfl
  have f1:cK C (Str.ofString "classes") (.ref x) M=some (aW cs):=(bS hx).trans k1
  obtain ⟨v,hv⟩:∃ v,own[eY cs s]?=some v:=⟨_,List.getElem?_eq_getElem (by have:=(pF hs).1;omega)⟩;have hat:=vR hv;have hvl:kZ own (eY cs s)=v:=by unfold kZ;rw [hv];rfl
  simp! only [jV];subst hB;simp only [cE];subst hV;refine aH fun V hV=>?_;simp! only [aY,hName,xS,jV,eT,fX,f1,aW,BN];refine ⟨⟨_,rfl⟩,wU hs ?_⟩;simp! only [hat];refine ⟨[c.1,v],rfl,?_⟩;subst hV;simp! only [bU,xS,jV,bJ hr];refine ⟨x,dx,cs,ps,lds,st,s,rfl,hs,hx,hW,?_⟩;simp! only [bJ hr];refine ⟨by rw [List.length_map];exact small (by omega),fun r' hr'=>?_⟩
  have:=q r' hr'
  simp only [kS,hvl,List.map_append] at this;exact aU this
def lM (g:Nat × Str):U:=.tup [.int (g.1:Int),.str g.2]
def gC (cs:List Str) (labs:List (List (Option Nat))) (g:Nat × Str):Option (Option Nat):=if g.1 < labs.length then some (kZ (labs[g.1]?.getD []) (eY cs g.2)) else none
def reachF (cs:List Str) (labs:List (List (Option Nat))) (goals:List (Nat × Str)):List (Option Nat):=goals.filterMap (gC cs labs)
def F6 (C:Addr):bE:=fun us M Q=>∃ (x dx r:Addr) (cs:List Str) (ps:List Pt) (lds:List T3) (st:WT) (c:FS) (goals:List (Nat × Str)),us=[.ref x,xS c.1 r,.lst (goals.map lM)]/\(∀ g∈goals,g.2∈cs)/\goals.length<=100/\M x=some (.ins C dx (fA cs ps lds st))/\M r=some (.lst (c.2.map eT))/\(∀ l∈c.2,l.length=cs.length)/\Q (oN (bT (c.1 :: reachF cs c.2 goals))) M
theorem Lu (F:cI K "state_price" "state_price" pO f fd) (hm:mg "state_price"=some (.ref f)) (c_Wiring:L2.fT K C) (n_classes:bL K C "classes") (bA:mg "len"=none) (Bp:Callee P w K mg base 1 "total" Bz []):Callee P w K mg base 2 "state_price" (F6 C) []:=by
 refine bQ F hm oH (uD fun _ _ _ _ _ _ _ _ _=>rfl) (aE (aR 3 oH.nd (aP (uv 1) aO))
 (aE (qL 4 oH.nd false ["number","cls","labels","wiring"] 2 [3,0] (eA (uv 2)) (lZ (n:=2) (bV (aX (k:=2) 0 (by dsimp only [bZ];decide +kernel)) (bV (aX (k:=2) 1 (by dsimp only [bZ];decide +kernel)) kJ))) (yH (cB Dy (uv 0) (fB eC bA (aA (uv 2) aB)))) (aP (aP (uv 2) (uv 0)) (pA (cH c_Wiring n_classes (uv 3)) (aA (uv 1) aB))))
 (aJ (bC (aK Bp (aA (cQ (own:=false) (cG (own:=false) (aA (aP (uv 1) aO) aB)) (uv 4)) aB)))))) ?_
 rintro us M Q ⟨x,dx,r,cs,ps,lds,st,c,goals,rfl,hgc,hgl,hx,hr,hll,q⟩;refine ⟨rfl,?_⟩;obtain ⟨k1,k2,k3,k4,k5⟩:=j4 (cs:=cs) (ps:=ps) (lds:=lds) (st:=st);refine aH fun V hV=>?_;simp! only [aY,hName,xS];subst hV;refine aH fun V hV=>?_;simp only [aY,hName];refine xC (S:=⟨none,goals.map lM⟩) (M1:=M) (goals.map fun g=>(gC cs c.2 g).map oN) (fun R r=>by simp! only [true_and];exact r) (by simp) (by rw [List.length_map];exact small (by omega)) (by intro a e;cases e) (fun i xx z hxx hz M' hS R r'=>?_) ?_
 ·rw [List.getElem?_map] at hxx hz
  cases hg:goals[i]? with
  | none=>rw [hg] at hxx;cases hxx
  | some g =>
   rw [hg] at hxx hz;cases hxx;cases hz;have r':R ((gC cs c.2 g).map oN) M':=r';have hr':=hS r _ hr;have hx':=hS x _ hx
   have f1:cK C (Str.ofString "classes") (.ref x) M'=some (aW cs):=(bS hx').trans k1
   have hs:=hgc g (List.mem_of_getElem? hg);simp! only [kO,j5,mN,hName,lM,bJ hr',List.length_map]
   by_cases hlt:g.1 < c.2.length
   ·have hlt':(g.1:Int) < (c.2.length:Int):=by omega
    obtain ⟨lb,hlb⟩:∃ lb,c.2[g.1]?=some lb:=⟨_,List.getElem?_eq_getElem hlt⟩;have hlen:=hll lb (List.mem_of_getElem? hlb);obtain ⟨v,hv⟩:∃ v,lb[eY cs g.2]?=some v:=⟨_,List.getElem?_eq_getElem (by have:=(pF hs).1;omega)⟩;have hat1:dH (c.2.map eT) (g.1:Int)=some (eT lb):=fK (by rw [List.getElem?_map,hlb];rfl);have hat2:=vR hv;have e:gC cs c.2 g=some v:=by unfold gC kZ;rw [if_pos hlt,hlb];simp only [Option.getD_some,hv]
    rw [e] at r';simp! only [decide_eq_true hlt',hat1,eT,fX,f1,aW,BN];refine ⟨⟨_,rfl⟩,wU hs ?_⟩;simp! only [hat2];exact r'
   ·have hlt':¬ (g.1:Int) < (c.2.length:Int):=by omega
    have e:gC cs c.2 g=none:=by unfold gC;rw [if_neg hlt]
    rw [e] at r';simp! only [decide_eq_false hlt'];exact r'
 have est:(goals.map fun g=>(gC cs c.2 g).map oN).filterMap id=bG (reachF cs c.2 goals):=by
  unfold reachF bG
  clear hgc hgl q
  induction goals with
  | nil=>rfl
  | cons t l ih =>
   rw [List.map_cons,List.filterMap_cons,List.filterMap_cons];simp only [id]
   cases h:gC cs c.2 t with
   | none=>simp only [Option.map_none];exact ih
   | some y=>simp only [Option.map_some,List.map_cons];exact congrArg _ ih
 rw [est];simp only [i7];subst hV;have hrl:(reachF cs c.2 goals).length<=100:=Nat.le_trans (List.length_filterMap_le _ _) hgl;simp! only [bU,xS,kY];refine ⟨small (by omega),c.1 :: reachF cs c.2 goals,rfl,aU q⟩
def cR (cs:List Str) (ps:List Pt) (lds:List T3) (st:WT) (l:List (Wt × Option Str)):FS:=l.foldl (fun c p=>kS cs ps lds c (eE cs ps lds st c.2 p.1) p.2) (some 0,[])
theorem m7 (cs:List Str) (ps:List Pt) (lds:List T3) (st:WT) (l:List (Wt × Option Str)) (p:Wt × Option Str):cR cs ps lds st (l++[p])=kS cs ps lds (cR cs ps lds st l) (eE cs ps lds st (cR cs ps lds st l).2 p.1) p.2:=by
 unfold cR;rw [List.foldl_append];rfl
theorem NI {c:FS} {own:List (Option Nat)} {k:Option Str} (h:∀ l∈c.2,l.length=cs.length) (ho:own.length=cs.length):(kS cs ps lds c own k).2.length=c.2.length + 1/\∀ l∈(kS cs ps lds c own k).2,l.length=cs.length:=by
 cases k with
 | none =>
  refine ⟨by simp [kS],fun l hl=>?_⟩
  rcases List.mem_append.mp hl with hl | hl
  ·exact h l hl
  ·cases List.mem_singleton.mp hl;exact ho
 | some s =>
  refine ⟨by simp [kS],fun l hl=>?_⟩
  rcases List.mem_append.mp hl with hl | hl
  ·exact h l hl
  ·cases List.mem_singleton.mp hl;exact Ag
theorem rA {cs:List Str} {ps:List Pt} {lds:List T3} {st:WT} {ts:List Wt} {fr:List (Option Str)} (hts:∀ (i:Nat) (t:Wt),ts[i]?=some t->t.good i):∀ i,i<=(ts.zip fr).length->(cR cs ps lds st ((ts.zip fr).take i)).2.length=i/\∀ l∈(cR cs ps lds st ((ts.zip fr).take i)).2,l.length=cs.length
 | 0,_=>⟨rfl,fun l hl=>by cases hl⟩
 | i + 1,hi=>by
  obtain ⟨h1,h2⟩:=rA (cs:=cs) (ps:=ps) (lds:=lds) (st:=st) (fr:=fr) hts i (by omega);have ht:(ts.zip fr)[i]?=some (ts.zip fr)[i]:=List.getElem?_eq_getElem (by omega);rw [List.take_add_one,ht,Option.toList_some,m7]
  have:=NI (cs:=cs) (ps:=ps) (lds:=lds) (k:=(ts.zip fr)[i].2) h2 (uN (ps:=ps) (lds:=lds) (st:=st) h2 (t:=(ts.zip fr)[i].1) (by rw [h1];exact hts i _ (AU ht).1))
  rw [h1] at this;exact this
def l8 (cs:List Str) (tls:List Tl) (ts:List Wt) (goals:List (Nat × Str)) (fr:List (Option Str)):Option Nat :=
 bT ((cR cs (aN tls) (bB cs tls) (gB cs tls) (ts.zip fr)).1 :: reachF cs (cR cs (aN tls) (bB cs tls) (gB cs tls) (ts.zip fr)).2 goals)
end
def Le (l:List (Option Nat)) (i n:Nat):Prop:=∃ m,l[i]?=some (some m)/\m<=n
variable {l:List (Option Nat)} {i:Nat}
theorem Le.mono {n':Nat} (h:Le l i n) (e:n<=n'):Le l i n':=let ⟨m,a,b⟩:=h;⟨m,a,Nat.le_trans b e⟩
theorem Le.lt (h:Le l i n):i < l.length:=let ⟨m,a,b⟩:=h;(List.getElem?_eq_some_iff.mp a).1
variable {j:Nat}
theorem DY {k:Nat}:Le (k7 l i k) j n ↔ Le l j n\/(j=i/\i < l.length/\k<=n):=by
 unfold k7
 cases e:l[i]? with
 | none =>
  have hi:l.length<=i:=List.getElem?_eq_none_iff.mp e;dsimp only
  constructor
  ·exact .inl
  ·rintro (h | ⟨_,h,_⟩)
   ·exact h
   ·omega
 | some v =>
  have hi:=(List.getElem?_eq_some_iff.mp e).1;have ne:∀ x,j≠i->(Le (l.set i x) j n ↔ Le l j n):=fun x hj=>by unfold Le;rw [List.getElem?_set_ne (fun z=>hj z.symm)]
  have eq:∀ x,(l.set i x)[i]?=some x:=fun x=>by rw [List.getElem?_set_self hi]
  cases v with
  | none =>
   dsimp only
   by_cases hj:j=i
   ·subst hj
    constructor
    ·rintro ⟨m,a,b⟩;rw [eq] at a;cases a;exact .inr ⟨rfl,hi,b⟩
    ·rintro (⟨m,a,b⟩ | ⟨_,_,h⟩)
     ·rw [e] at a;cases a
     ·exact ⟨k,eq _,h⟩
   ·rw [ne _ hj];exact ⟨.inl,fun h=>h.elim id fun h=>absurd h.1 hj⟩
  | some m =>
   dsimp only
   by_cases hk:k < m
   ·rw [if_pos hk]
    by_cases hj:j=i
    ·subst hj
     constructor
     ·rintro ⟨m',a,b⟩;rw [eq] at a;cases a;exact .inr ⟨rfl,hi,b⟩
     ·rintro (⟨m',a,b⟩ | ⟨_,_,h⟩)
      ·rw [e] at a;cases a;exact ⟨k,eq _,by omega⟩
      ·exact ⟨k,eq _,h⟩
    ·rw [ne _ hj];exact ⟨.inl,fun h=>h.elim id fun h=>absurd h.1 hj⟩
   ·rw [if_neg hk]
    refine ⟨.inl,fun h=>h.elim id fun ⟨a,_,c⟩=>?_⟩;subst a;exact ⟨m,e,by omega⟩
theorem tG {l:List (Option Nat)} {j n:Nat}:∀ (lds:List T3) {f:List (Option Nat)},Le (lds.foldl (jA l) f) j n ↔ Le f j n\/∃ x∈lds,j=x.2.1/\x.2.1 < f.length/\∃ m,Le l x.1 m/\m + x.2.2<=n
 | [],f=>⟨.inl,fun h=>h.elim id fun ⟨x,hx,_⟩=>nomatch hx⟩
 | y :: lds,f=>by
  have one:Le (jA l f y) j n ↔ Le f j n\/(j=y.2.1/\y.2.1 < f.length/\∃ m,Le l y.1 m/\m + y.2.2<=n):=by
   unfold jA;split
   ·rename_i v e
    rw [DY]
    constructor
    ·rintro (h | ⟨a,b,c⟩)
     ·exact .inl h
     ·exact .inr ⟨a,b,v,⟨v,e,Nat.le_refl _⟩,c⟩
    ·rintro (h | ⟨a,b,m,⟨v',e',hv⟩,c⟩)
     ·exact .inl h
     ·rw [e] at e';cases e';exact .inr ⟨a,b,by omega⟩
   ·rename_i no
    refine ⟨.inl,fun h=>h.elim id fun ⟨_,_,m,⟨v,e,_⟩,_⟩=>absurd e (no v)⟩
  have ln:(jA l f y).length=f.length:=by
   unfold jA;split
   ·exact nT _ _ _
   ·rfl
  rw [List.foldl_cons,tG lds,one,ln];simp only [List.mem_cons,exists_eq_or_imp,or_assoc]
variable {cs:List Str} {ps:List Pt}
theorem Js:¬ Le (fN cs ps) j n:=by
 rintro ⟨m,e,_⟩;unfold fN at e;obtain ⟨_,e⟩:=List.getElem?_eq_some_iff.mp e;rw [List.getElem_replicate] at e;cases e
theorem P5 {t:Tr} {j n:Nat}:∀ (rs:List L3) {f:List (Option Nat)},Le (rs.foldl (iW t) f) j n ↔ Le f j n\/∃ r∈rs,pQ r.2.2 t=true/\j=r.1/\r.1 < f.length/\r.2.1<=n
 | [],f=>⟨.inl,fun h=>h.elim id fun ⟨x,hx,_⟩=>nomatch hx⟩
 | y :: rs,f=>by
  have one:Le (iW t f y) j n ↔ Le f j n\/(pQ y.2.2 t=true/\j=y.1/\y.1 < f.length/\y.2.1<=n):=by
   unfold iW
   by_cases h:pQ y.2.2 t=true
   ·rw [if_pos h,DY]
    exact ⟨fun q=>q.imp id fun q=>⟨h,q⟩,fun q=>q.imp id fun q=>q.2⟩
   ·rw [if_neg h]
    exact ⟨.inl,fun q=>q.elim id fun q=>absurd q.1 h⟩
  have ln:(iW t f y).length=f.length:=by
   unfold iW;split
   ·exact nT _ _ _
   ·rfl
  rw [List.foldl_cons,P5 rs,one,ln];simp only [List.mem_cons,exists_eq_or_imp,or_assoc]
theorem Gz {j n:Nat} {g:R3->Option Nat}:∀ (rs:List R3) {f:List (Option Nat)},Le ((rs.zip (rs.map g)).foldl oA f) j n ↔ Le f j n\/∃ r∈rs,j=r.1/\r.1 < f.length/\∃ v,g r=some v/\r.2.1 + v<=n
 | [],f=>⟨.inl,fun h=>h.elim id fun ⟨x,hx,_⟩=>nomatch hx⟩
 | y :: rs,f=>by
  have one:Le (oA f (y,g y)) j n ↔ Le f j n\/(j=y.1/\y.1 < f.length/\∃ v,g y=some v/\y.2.1 + v<=n):=by
   unfold oA
   cases e:g y with
   | none=>exact ⟨.inl,fun q=>q.elim id fun ⟨_,_,v,z,_⟩=>nomatch z⟩
   | some v =>
    dsimp only;rw [DY];refine ⟨fun q=>q.imp id fun ⟨a,b,c⟩=>⟨a,b,v,rfl,c⟩,fun q=>q.imp id fun ⟨a,b,v',z,c⟩=>?_⟩;cases z;exact ⟨a,b,c⟩
  have ln:(oA f (y,g y)).length=f.length:=by
   unfold oA;split
   ·exact nT _ _ _
   ·rfl
  rw [List.map_cons,List.zip_cons_cons,List.foldl_cons,Gz rs,one,ln];simp only [List.mem_cons,exists_eq_or_imp,or_assoc]
def Sh (T:Nat) (l l':List (Option Nat)):Prop:=l.length=l'.length/\∀ i n,Le l i n->Le l' i (T + n)
theorem Sh.refl (T:Nat) (l:List (Option Nat)):Sh T l l:=⟨rfl,fun _ _ h=>h.mono (by omega)⟩
variable {T:Nat} {l':List (Option Nat)} {lds:List T3}
theorem Sh.passes (h:Sh T l l'):Sh T (lF lds l) (lF lds l'):=by
 refine ⟨by rw [k8,k8];exact h.1,fun i n q=>?_⟩;unfold lF at q ⊢;rw [tG] at q ⊢
 rcases q with q | ⟨x,hx,e1,e2,m,e3,e4⟩
 ·exact .inl (h.2 i n q)
 ·exact .inr ⟨x,hx,e1,h.1 ▸ e2,T + m,h.2 _ _ e3,by omega⟩
theorem Bm:Le l i n ↔ ∃ v,l[i]?.getD none=some v/\v<=n:=by
 constructor
 ·rintro ⟨m,e,h⟩;exact ⟨m,by rw [e];rfl,h⟩
 ·rintro ⟨v,e,h⟩
  cases e2:l[i]? with
  | none=>rw [e2] at e;cases e
  | some w=>rw [e2] at e;exact ⟨v,by rw [show w=some v from e] at e2;exact e2,h⟩
theorem F3 {T:Nat} {l l':List (Option Nat)} (h:Sh T l l'):∀ (a b:List (List (Option Nat))) (ds:List Nat) {v:Nat},bT (fZ (a++l :: b) ds)=some v->∃ v',bT (fZ (a++l' :: b) ds)=some v'/\v'<=T + v
 | a,b,[],v=>fun e=>by
  unfold fZ at e ⊢;rw [List.zip_nil_right] at e ⊢;cases e;exact ⟨0,rfl,Nat.zero_le _⟩
 | [],b,d :: ds,v=>fun e=>by
  have e':bT (l[d]?.getD none :: fZ b ds)=some v:=e;show ∃ v',bT (l'[d]?.getD none :: fZ b ds)=some v'/\_
  cases e1:l[d]?.getD none with
  | none=>rw [e1] at e';cases e'
  | some x =>
   rw [e1] at e'
   cases e2:bT (fZ b ds) with
   | none=>simp only [bT,e2] at e';cases e'
   | some y =>
    simp only [bT,e2,Option.map_some] at e';cases e';obtain ⟨x',h1,h2⟩:=Bm.mp (h.2 d x (Bm.mpr ⟨x,e1,Nat.le_refl _⟩));exact ⟨x' + y,by simp only [h1,bT,e2,Option.map_some],by omega⟩
 | c :: a,b,d :: ds,v=>fun e=>by
  have e':bT (c[d]?.getD none :: fZ (a++l :: b) ds)=some v:=e;show ∃ v',bT (c[d]?.getD none :: fZ (a++l' :: b) ds)=some v'/\_
  cases e1:c[d]?.getD none with
  | none=>rw [e1] at e';cases e'
  | some x =>
   rw [e1] at e'
   cases e2:bT (fZ (a++l :: b) ds) with
   | none=>simp only [bT,e2] at e';cases e'
   | some y =>
    simp only [bT,e2,Option.map_some] at e';cases e';obtain ⟨y',h1,h2⟩:=F3 h a b ds e2;exact ⟨x + y',by simp only [h1,bT,Option.map_some],by omega⟩
theorem Bt {st:WT} (h:Sh T l l') (k:Nat) (a b:List (List (Option Nat))):Sh T (iU cs ps lds st k (a++l :: b)) (iU cs ps lds st k (a++l' :: b)):=by
 unfold iU HE;refine Sh.passes ⟨by rw [mQ,mQ],fun i n q=>?_⟩;rw [Gz] at q ⊢
 rcases q with q | ⟨r,hr,e1,e2,v,e3,e4⟩
 ·exact absurd q Js
 ·obtain ⟨v',h1,h2⟩:=F3 h a b _ e3
  exact .inr ⟨r,hr,e1,e2,v',h1,by omega⟩
def sP:Wt->Prop
 | .piece _=>False
 | .turn a=>sP a
 | .two _ a b=>sP a/\sP b
 | _=>True
def Co (k:Nat):Wt->Prop
 | .piece j=>j=(k:Int)
 | .turn a=>Co k a
 | .two _ a b=>(Co k a/\sP b)\/(sP a/\Co k b)
 | _=>False
section
variable {cs:List Str} {ps:List Pt} {lds:List T3} {st:WT} {labs labs':List (List (Option Nat))}
theorem tX:∀ t:Wt,sP t->gY cs ps lds st labs t=gY cs ps lds st labs' t
 | .num n,_=>rfl
 | .name n,_=>rfl
 | .piece n,h=>h.elim
 | .turn a,h=>by
  show iU cs ps lds st 0 [gY cs ps lds st labs a]=iU cs ps lds st 0 [gY cs ps lds st labs' a];rw [tX a h]
 | .two o a b,h=>by
  show iU cs ps lds st o.ix [gY cs ps lds st labs a,gY cs ps lds st labs b]=iU cs ps lds st o.ix [gY cs ps lds st labs' a,gY cs ps lds st labs' b];rw [tX a h.1,tX b h.2]
theorem Sh.app {T:Nat} {l l' r:List (Option Nat)} (h:Sh T l l'):Sh T (l++r) (l'++r):=by
 refine ⟨by simp [h.1],fun i n q=>?_⟩;obtain ⟨m,e,hm⟩:=q
 by_cases hi:i < l.length
 ·rw [List.getElem?_append_left hi] at e
  obtain ⟨m',e',hm'⟩:=h.2 i m ⟨m,e,Nat.le_refl _⟩;exact ⟨m',by rw [List.getElem?_append_left (h.1 ▸ hi)];exact e',by omega⟩
 ·rw [List.getElem?_append_right (by omega)] at e
  exact ⟨m,by rw [List.getElem?_append_right (by rw [<- h.1];omega),<- h.1];exact e,by omega⟩
theorem AW {T k:Nat} (h:Sh T (labs[k]?.getD []) (labs'[k]?.getD [])):∀ t:Wt,Co k t->Sh T (gY cs ps lds st labs t) (gY cs ps lds st labs' t)
 | .num n,q=>q.elim
 | .name n,q=>q.elim
 | .piece j,q=>by
  have e:j=(k:Int):=q;subst e;exact Sh.app h
 | .turn a,q=>Bt (AW h a q) 0 [] []
 | .two o a b,q=>by
  rcases q with ⟨q1,q2⟩ | ⟨q1,q2⟩
  ·have:=Bt (cs:=cs) (ps:=ps) (lds:=lds) (st:=st) (AW h a q1) o.ix [] [gY cs ps lds st labs b]
   show Sh T (iU cs ps lds st o.ix ([]++gY cs ps lds st labs a :: [gY cs ps lds st labs b])) (iU cs ps lds st o.ix [gY cs ps lds st labs' a,gY cs ps lds st labs' b]);rw [tX (labs:=labs') (labs':=labs) b q2];exact this
  ·have:=Bt (cs:=cs) (ps:=ps) (lds:=lds) (st:=st) (AW h b q2) o.ix [gY cs ps lds st labs a] []
   show Sh T (iU cs ps lds st o.ix ([gY cs ps lds st labs a]++gY cs ps lds st labs b :: [])) (iU cs ps lds st o.ix [gY cs ps lds st labs' a,gY cs ps lds st labs' b]);rw [tX (labs:=labs') (labs':=labs) a q1];exact this
theorem Sh.cut {T m:Nat} {l l':List (Option Nat)} (h:Sh T l l'):Sh T (l.take m) (l'.take m):=by
 refine ⟨by simp [h.1],fun i n q=>?_⟩;obtain ⟨v,e,hv⟩:=q;have hi:i < m:=by have:=(List.getElem?_eq_some_iff.mp e).1;rw [List.length_take] at this;omega
 rw [List.getElem?_take_of_lt hi] at e;obtain ⟨v',e',hv'⟩:=h.2 i v ⟨v,e,Nat.le_refl _⟩;exact ⟨v',by rw [List.getElem?_take_of_lt hi];exact e',by omega⟩
theorem Tu {T k:Nat} (h:Sh T (labs[k]?.getD []) (labs'[k]?.getD [])) (t:Wt) (q:Co k t):Sh T (eE cs ps lds st labs t) (eE cs ps lds st labs' t):=(AW h t q).cut
theorem Ry (t:Wt) (q:sP t):eE cs ps lds st labs t=eE cs ps lds st labs' t:=by unfold eE;rw [tX t q]
end
structure K4 (cs:List Str) (lds:List T3):Prop where
 n2:cs.length<=2
 ld:∀ x∈lds,x.1 < cs.length/\x.2.1 < cs.length/\x.2.1≠x.1
def A9 (lds:List T3) (l:List (Option Nat)):Prop:=∀ x∈lds,∀ n,Le l x.1 n->x.2.1 < l.length->Le l x.2.1 (n + x.2.2)
section
variable {cs:List Str} {ps:List Pt} {lds:List T3} {st:WT} {labs:List (List (Option Nat))}
theorem oY (h:K4 cs lds) (l:List (Option Nat)):A9 lds (lF lds l):=by
 intro x hx n q hl;rw [k8] at hl;unfold lF at q ⊢;rw [tG] at q ⊢
 rcases q with q | ⟨y,hy,e1,_,m,e3,e4⟩
 ·exact .inr ⟨x,hx,rfl,hl,n,q,Nat.le_refl _⟩
 ·obtain ⟨a1,a2,a3⟩:=h.ld x hx
  obtain ⟨b1,b2,b3⟩:=h.ld y hy
  have:=h.n2
  have e:y.1=x.2.1:=by omega
  exact .inl ((e ▸ e3).mono (by omega))
theorem Ea {l:List (Option Nat)} {m i n:Nat}:Le (l.take m) i n ↔ i < m/\Le l i n:=by
 constructor
 ·rintro ⟨v,e,hv⟩
  have hi:i < m:=by have:=(List.getElem?_eq_some_iff.mp e).1;rw [List.length_take] at this;omega
  rw [List.getElem?_take_of_lt hi] at e;exact ⟨hi,v,e,hv⟩
 ·rintro ⟨hi,v,e,hv⟩
  exact ⟨v,by rw [List.getElem?_take_of_lt hi];exact e,hv⟩
theorem Ia (h:K4 cs lds) (t:Wt) (np:∀ k,t≠.piece k):A9 lds (eE cs ps lds st labs t):=by
 have hr:A9 lds (gY cs ps lds st labs t):=by
  cases t with
  | piece k=>exact absurd rfl (np k)
  | num n=>exact oY h _
  | name n=>exact oY h _
  | turn a=>exact oY h _
  | two o a b=>exact oY h _
 intro x hx n q hl;unfold eE at *;rw [Ea] at q ⊢;rw [List.length_take] at hl;exact ⟨by omega,hr x hx n q.2 (by omega)⟩
theorem JG {i j n:Nat} (q:Le ((fN cs ps).set i (some 0)) j n):j=i:=by
 by_cases h:j=i
 ·exact h
 ·obtain ⟨m,e,hm⟩:=q
  rw [List.getElem?_set_ne (fun z=>h z.symm)] at e;exact absurd ⟨m,e,hm⟩ Js
variable {s:Str}
theorem Qi {j n:Nat} (q:Le (nF cs ps lds s) j n):j=eY cs s\/∃ x∈lds,x.1=eY cs s/\x.2.1=j/\x.2.2<=n:=by
 unfold nF at q;rw [Ea] at q;have q:=q.2;unfold lF at q;rw [tG] at q
 rcases q with q | ⟨x,hx,e1,_,m,e3,e4⟩
 ·exact .inl (JG q)
 ·exact .inr ⟨x,hx,JG e3,e1.symm,by omega⟩
theorem Qo (hs:s∈cs):kZ (nF cs ps lds s) (eY cs s)=some 0:=by
 have hi:=(pF hs).1
 have h:Le (nF cs ps lds s) (eY cs s) 0:=by
  unfold nF;refine Ea.mpr ⟨hi,?_⟩;unfold lF;rw [tG];refine .inl ⟨0,?_,Nat.le_refl _⟩;rw [List.getElem?_set_self (by unfold fN cX;rw [List.length_replicate];omega)]
 obtain ⟨v,e,hv⟩:=Bm.mp h;unfold kZ;rw [e,Nat.le_zero.mp hv]
theorem Ph {T v:Nat} {own own':List (Option Nat)} (hc:A9 lds own') (hl:own'.length=cs.length) (h:Sh T own own') (e:kZ own (eY cs s)=some v):Sh (T + v) (nF cs ps lds s) own':=by
 refine ⟨by rw [Ag,hl],fun j n q=>?_⟩;have hj:j < own'.length:=by have:=q.lt;rw [Ag] at this;omega
 have h0:Le own' (eY cs s) (T + v):=h.2 _ _ (Bm.mpr ⟨v,e,Nat.le_refl _⟩)
 rcases Qi q with e | ⟨x,hx,e1,e2,e3⟩
 ·subst e;exact h0.mono (by omega)
 ·subst e2
  exact (hc x hx _ (e1 ▸ h0) hj).mono (by omega)
end
structure Chain (ts:List Wt):Prop where
 no:∀ t,ts[0]?=some t->sP t
 on:∀ (i:Nat) t,ts[i + 1]?=some t->Co i t/\∀ k,t≠.piece k
theorem Chain.np {ts:List Wt} (h:Chain ts) {t:Wt} (e:ts[i]?=some t):∀ k,t≠.piece k:=by
 cases i with
 | zero=>intro k z;subst z;exact h.no _ e
 | succ i=>exact (h.on i t e).2
theorem uE {α:Type} {l:List (List α)} {x:List α} (h:l.length=i):(l++[x])[i]?.getD []=x:=by
 subst h;rw [List.getElem?_append_right (Nat.le_refl _)];simp
section
variable {cs:List Str} {ps:List Pt} {lds:List T3} {st:WT} {ts:List Wt} {fr:List (Option Str)}
theorem EJ (h2:K4 cs lds) (hc:Chain ts) (hts:∀ (i:Nat) (t:Wt),ts[i]?=some t->t.good i):∀ i,i<=(ts.zip fr).length->∀ T,(cR cs ps lds st ((ts.zip fr).take i)).1=some T->∀ j,i=j + 1 ->
  Sh T ((cR cs ps lds st ((ts.zip fr).take i)).2[j]?.getD []) ((iS cs ps lds st (ts.take i))[j]?.getD [])
 | 0,_=>fun T _ j hj=>by omega
 | i + 1,hi=>by
  have ih:=EJ h2 hc hts i (by omega);obtain ⟨f1,f2⟩:=rA (cs:=cs) (ps:=ps) (lds:=lds) (st:=st) (fr:=fr) hts i (by omega);have htl:i < ts.length:=by rw [List.length_zip] at hi;omega
  obtain ⟨w1,w2⟩:=tV (cs:=cs) (ps:=ps) (lds:=lds) (st:=st) hts i (by omega);have ht:(ts.zip fr)[i]?=some (ts.zip fr)[i]:=List.getElem?_eq_getElem (by omega);have ht1:ts[i]?=some (ts.zip fr)[i].1:=(AU ht).1;rw [List.take_add_one,ht,Option.toList_some,m7,List.take_add_one,ht1,Option.toList_some,sE];generalize (ts.zip fr)[i]=p at *;generalize cR cs ps lds st ((ts.zip fr).take i)=c at *;generalize iS cs ps lds st (ts.take i)=W at *;have ho':(eE cs ps lds st W p.1).length=cs.length:=uN w2 (by rw [w1];exact hts i _ ht1)
  have hown:∀ T0,c.1=some T0->Sh T0 (eE cs ps lds st c.2 p.1) (eE cs ps lds st W p.1):=fun T0 h0=>by
   cases i with
   | zero=>rw [Ry (labs:=c.2) (labs':=W) p.1 (hc.no _ ht1)];exact Sh.refl _ _
   | succ k=>exact Tu (ih T0 h0 k rfl) p.1 (hc.on k _ ht1).1
  intro T hT j hj;have hj:j=i:=by omega
  subst hj;rw [uE w1]
  cases hp:p.2 with
  | none =>
   rw [hp] at hT;show Sh T ((c.2++[_])[j]?.getD []) _;rw [uE f1];exact hown T hT
  | some s =>
   rw [hp] at hT;show Sh T ((c.2++[_])[j]?.getD []) _;rw [uE f1];have hT:bT [c.1,kZ (eE cs ps lds st c.2 p.1) (eY cs s)]=some T:=hT
   cases h0:c.1 with
   | none=>rw [h0] at hT;cases hT
   | some T0 =>
    cases hv:kZ (eE cs ps lds st c.2 p.1) (eY cs s) with
    | none=>rw [h0,hv] at hT;cases hT
    | some v =>
     rw [h0,hv] at hT;have e:T0 + (v + 0)=T:=Option.some.inj hT;subst e;exact Ph (Ia h2 p.1 (hc.np ht1)) ho' (hown T0 h0) hv
theorem HC:∀ (l:List Wt),cR cs ps lds st (l.map fun t=>(t,none))=(some 0,iS cs ps lds st l):=by
 have:∀ (l:List Wt) (c:FS),(l.map fun t=>(t,none)).foldl (fun c (p:Wt × Option Str)=>kS cs ps lds c (eE cs ps lds st c.2 p.1) p.2) c=(c.1,l.foldl (fun acc t=>acc++[eE cs ps lds st acc t]) c.2):=by
  intro l
  induction l with
  | nil=>intro c;rfl
  | cons t l ih=>intro c;rw [List.map_cons,List.foldl_cons,ih];rfl
 intro l;unfold cR iS;rw [this]
end
theorem Fj:∀ l:List Wt,l.zip (List.replicate l.length (none:Option Str))=l.map fun t=>(t,none)
 | []=>rfl
 | a :: l=>by rw [List.length_cons,List.replicate_succ,List.zip_cons_cons,Fj l];rfl
theorem Gb (T x:Nat):∀ g,bT (some T :: List.replicate g (some x))=some (T + g * x):=by
 have h:∀ g,bT (List.replicate g (some x))=some (g * x):=by
  intro g
  induction g with
  | zero=>simp [bT]
  | succ g ih=>rw [List.replicate_succ];simp only [bT,ih,Option.map_some];rw [Nat.succ_mul];congr 1;omega
 intro g;simp only [bT,h,Option.map_some]
theorem CS {labs:List (List (Option Nat))} {s:Str} (h:n < labs.length) (g:Nat):reachF cs labs (List.replicate g (n,s))=List.replicate g (kZ (labs[n]?.getD []) (eY cs s)):=by
 unfold reachF;rw [List.filterMap_replicate_of_some (by unfold gC;rw [if_pos h])]
section
variable {cs:List Str} {tls:List Tl} {ts:List Wt} {s:Str} {g n:Nat}
theorem MB (h2:K4 cs (bB cs tls)) (hc:Chain ts) (hw:Gp ts) (hn:ts.length=n + 1) (hg:1<=g) {fr:List (Option Str)} (hf:fr.length=n + 1) {p:Nat} (e:l8 cs tls ts (List.replicate g (n,s)) fr=some p):Le ((kC cs tls ts)[n]?.getD []) (eY cs s) p:=by
 have hz:(ts.zip fr).length=n + 1:=by rw [List.length_zip];omega
 have a:=EJ (ps:=aN tls) (st:=gB cs tls) (fr:=fr) h2 hc hw.ok (n + 1) (by omega);have b:=rA (cs:=cs) (ps:=aN tls) (lds:=bB cs tls) (st:=gB cs tls) (fr:=fr) hw.ok (n + 1) (by omega);rw [<- hz,List.take_length,hz,<- hn,List.take_length,hn] at a;rw [<- hz,List.take_length,hz] at b;unfold l8 at e;generalize cR cs (aN tls) (bB cs tls) (gB cs tls) (ts.zip fr)=c at *;rw [CS (by omega)] at e
 cases h0:c.1 with
 | none=>rw [h0] at e;cases e
 | some T =>
  cases hx:kZ (c.2[n]?.getD []) (eY cs s) with
  | none =>
   rw [h0,hx] at e
   cases g with
   | zero=>omega
   | succ g=>rw [List.replicate_succ] at e;cases e
  | some x =>
   rw [h0,hx,Gb] at e;have e:T + g * x=p:=Option.some.inj e;have hgx:x<=g * x:=Nat.le_mul_of_pos_left x hg;exact ((a T h0 n rfl).2 _ x (Bm.mpr ⟨x,hx,Nat.le_refl _⟩)).mono (by omega)
theorem M8 (hw:Gp ts) (hn:ts.length=n + 1) (hs:s∈cs) {w:Nat} (e:kZ ((kC cs tls ts)[n]?.getD []) (eY cs s)=some w):l8 cs tls ts (List.replicate g (n,s)) (List.replicate n none++[some s])=some w:=by
 have ht:ts[n]?=some (ts[n]'(by omega)):=List.getElem?_eq_getElem (by omega)
 have es:ts=ts.take n++[ts[n]'(by omega)]:=by
  have:=List.take_add_one (l:=ts) (i:=n)
  rw [ht,Option.toList_some,<- hn,List.take_length] at this;exact this
 have ez:ts.zip (List.replicate n none++[some s])=((ts.take n).map fun t=>(t,none))++[(ts[n]'(by omega),some s)]:=by
  have hl:(ts.take n).length=n:=by rw [List.length_take];omega
  generalize ts[n]'(by omega)=t at *;generalize ts.take n=l at *;subst es;rw [List.zip_append (by rw [hl,List.length_replicate])]
  congr 1
  rw [<- hl];exact Fj l
 obtain ⟨w1,w2⟩:=tV (cs:=cs) (ps:=aN tls) (lds:=bB cs tls) (st:=gB cs tls) hw.ok n (by omega)
 have el:(kC cs tls ts)[n]?.getD []=eE cs (aN tls) (bB cs tls) (gB cs tls) (iS cs (aN tls) (bB cs tls) (gB cs tls) (ts.take n)) (ts[n]'(by omega)):=by
  unfold kC;rw [show iS cs (aN tls) (bB cs tls) (gB cs tls) ts=iS cs (aN tls) (bB cs tls) (gB cs tls) (ts.take n++[ts[n]'(by omega)]) from congrArg _ es,sE,uE w1]
 rw [el] at e;unfold l8;rw [ez,m7,HC];show bT (bT [some 0,kZ _ _] :: reachF cs (_++[_]) _)=_;rw [e,CS (by rw [List.length_append,w1];exact Nat.lt_succ_self _),uE w1,Qo hs];have e0:bT [some 0,some w]=some w:=by simp [bT]
 rw [e0,Gb];simp
def RQ (cs:List Str):U:=.tup (.non :: cs.map U.str)
def xM:bE:=fun us M Q=>∃ (cs:List Str) (tls:List Tl),us=[dP cs tls]/\cs.length<=10/\Q (RQ cs) M
theorem Ho (F:cI K "choices" "choices" xE f fd) (hm:mg "choices"=some (.ref f)):Callee P w K mg base 1 "choices" xM []:=by
 refine bQ F hm IF (CA fun _ _ _ _ _ _ _=>rfl) (aJ (bC (cQ (own:=false) (bN (aA lX aB)) (aP (uv 0) aO)))) ?_;rintro us M Q ⟨cs,tls,rfl,hc,q⟩;refine ⟨rfl,?_⟩;simp! only [dP,aW,bU];exact ⟨small (by rw [List.length_map];omega),aU q⟩
def DX:bE:=fun us M Q=>∃ (cs:List Str) (tls:List Tl) (ts:List Wt),us=[dP cs tls,k9 ts]/\cs.length<=2/\1<=cs.length/\ts.length<=5/\Q .non M
theorem KA (F:cI K "refuse_many" "refuse_many" pN f fd) (hm:mg "refuse_many"=some (.ref f)) (bA:mg "len"=none) {tk:Tok} (pG:mg "MOST_FRONTS"=some (.int 5000 tk)) (wN:Callee P w K mg base 1 "choices" xM []):Callee P w K mg base 2 "refuse_many" DX []:=by
 refine bQ F hm lP (rQ fun _ _ _ _ _ _ _ _=>rfl) (aE (aR 2 lP.nd aO)
 (aE (eI (eA (uv 1)) (aX (k:=1000) 3 lP.nd)
 (aJ (aR 2 lP.nd (gX (own:=false) (uv 2) (fB eC bA (aA (aK wN (aA (uv 0) aB)) aB))))))
 (aJ (cF (cB Mu (uv 2) (Rw pG))
 (aJ Np)
 bO)))) ?_
 rintro us M Q ⟨cs,tls,ts,rfl,hc,hc1,ht,q⟩;refine ⟨rfl,?_⟩;refine aH fun V hV=>?_;simp! only [aY,hName];subst hV;refine aH fun V hV=>?_
 refine eP (S:=⟨none,ts.map Wt.toU⟩) (M1:=M) (fun R r=>by simp! only [k9];exact r)
  (fun i τ' M'=>M'=M/\∃ (e3:Option U) (k:Nat),k<=3 ^ i/\τ'=[some (dP cs tls),some (k9 ts),some (.int (k:Int)),e3]) ⟨rfl,none,1,Nat.le_refl _,rfl⟩ (fun i τ' M' _=>fun a e=>by cases e) ?_ ?_
 ·rintro i x τ' M' hi ⟨rfl,e3,k,hk,rfl⟩
  have hil:i < 5:=by have:=(List.getElem?_eq_some_iff.mp hi).1;simp only [List.length_map] at this;omega
  have h5:3 ^ i<=3 ^ 5:=Nat.pow_le_pow_right (by decide) (by omega);simp! only [hName,aY];refine ⟨cs,tls,rfl,by omega,?_⟩;simp only [RQ,view,List.length_cons,List.length_map];refine ⟨mulL (by omega) (by omega),trivial,some x,k * (cs.length + 1),?_,?_⟩
  ·rw [Nat.pow_succ];exact Nat.mul_le_mul hk (by omega)
  ·simp
 ·rintro τ' M' ⟨rfl,e3,k,hk,rfl⟩
  rw [show (Src.mk none (ts.map Wt.toU)).xs.length=ts.length from List.length_map _] at hk;have h5:3 ^ ts.length<=3 ^ 5:=Nat.pow_le_pow_right (by decide) (by omega);show V _ _;subst hV;simp! only [wF];rw [if_neg (by simp;omega)];simp only [cE];exact aU q
def GA:bE:=fun us M Q=>∃ (f:Addr) (d x:Int) (names:List Str),us=[.ref f,.lst (names.map U.str)]/\M f=some (.lst (bH d x))/\0<=d/\0<=x/\x<=2147484647/\names.length=2/\(∀ s∈names,isName (.str s)=true) /\
 ∀ (t:Wt) (d' x':Int),sP t->t.good 0->t.dep<=1->0<=d'->0<=x'->x'<=2147484647->Q t.toU (mup M f (.lst (bH d' x')))
theorem Nj (F:cI K "_law_leaf" "_law_leaf" vK f fd) (hm:mg "_law_leaf"=some (.ref f)) (bA:mg "len"=none) (aS:Callee P w K mg base 1 "_law_take" nA []):Callee P w K mg base 2 "_law_leaf" GA []:=by
 refine bQ F hm Fv (rQ fun _ _ _ _ _ _ _ _=>rfl) (aE (cF (cB lI (aK aS (aA (uv 0) (aA aO aB))) aO)
 (aJ (bC (bN (aA gL (aA (aK aS (aA (uv 0) (aA aO aB))) aB)))))
 bO)
 (aJ (bC (bN (aA gL (aA (aP (uv 1) (aK aS (aA (uv 0) (aA (fB eC bA (aA (uv 1) aB)) aB)))) aB)))))) ?_
 rintro us M Q ⟨ff,d,x,names,rfl,hf,h1,h2,h3,hn,hnm,q⟩;refine ⟨rfl,?_⟩;refine aH fun V hV=>?_;refine bX fun A B hA hB=>?_;simp! only [true_and];refine ⟨ff,d,x,3,rfl,hf,h1,h2,h3,by decide,by decide,fun n d1 x1 n0 n3 g1 g2 g3=>?_⟩;simp! only [true_and];refine kP (fun _=>?_) (fun _=>?_)
 ·subst hA
  simp! only [bU];refine ⟨ff,d1,x1,8,rfl,aD,g1,g2,g3,by decide,by decide,fun n2 d2 x2 a0 a8 k1 k2 k3=>?_⟩;rw [aZ];exact aU (q (.num n2) d2 x2 trivial ⟨a0,by omega⟩ (by simp [Wt.dep]) k1 k2 k3)
 ·subst hB
  simp only [cE];subst hV;simp! only [bU,List.length_map];refine ⟨ff,d1,x1,_,rfl,aD,g1,g2,g3,by omega,by omega,fun n2 d2 x2 a0 a8 k1 k2 k3=>?_⟩;obtain ⟨i,rfl⟩:∃ i:Nat,n2=(i:Int):=⟨n2.toNat,by omega⟩;have hi:i < names.length:=by omega
  simp! only [true_and];refine ⟨_,fK (by rw [List.getElem?_map,List.getElem?_eq_getElem hi];rfl),?_⟩;exact aU (q (.name names[i]) d2 x2 trivial (hnm _ (List.getElem_mem hi)) (by simp [Wt.dep]) k1 k2 k3)
def ED:bE:=fun us M Q=>∃ (f:Addr) (d x:Int) (names:List Str) (k:Nat),us=[.ref f,.lst (names.map U.str),.int (k:Int)]/\M f=some (.lst (bH d x))/\0<=d/\0<=x/\x<=2147484647/\names.length=2/\(∀ s∈names,isName (.str s)=true)/\k<=10 /\
 ∀ (t:Wt) (d' x':Int),(k=0->sP t)->(∀ i,k=i + 1->Co i t/\∀ j,t≠.piece j)->t.good k->t.dep<=4->0<=d'->0<=x'->x'<=2147484647->Q t.toU (mup M f (.lst (bH d' x')))
theorem oG {m:Int} (h:0<=m):∀ {t:Wt},t.good 0->t.good m
 | .num n,q=>q
 | .name n,q=>q
 | .piece k,q=>⟨q.1,by have:=q.1;have:=q.2;omega⟩
 | .turn a,q=>oG h (t:=a) q
 | .two o a b,q=>⟨oG h q.1,oG h q.2⟩
theorem Jy (F:cI K "_law_asking" "_law_asking" q9 f fd) (hm:mg "_law_asking"=some (.ref f)) (aS:Callee P w K mg base 1 "_law_take" nA []) (nM:Callee P w K mg base 2 "_law_leaf" GA []):Callee P w K mg base 3 "_law_asking" ED []:=by
 refine bQ F hm mG (uD fun _ _ _ _ _ _ _ _ _=>rfl) (aE (cF (cB lI (uv 2) aO)
 (aJ (bC (aK nM (aA (uv 0) (aA (uv 1) aB)))))
 bO)
 (aE (aR 3 mG.nd (aK aS (aA (uv 0) (aA aO aB))))
 (aE (aR 4 mG.nd (bN (aA gL (aA (kE (uv 2) aO) aB))))
 (aE (cF (cB lI (uv 3) aO)
 (aJ (bC (bN (aA gL (aA (uv 4) aB)))))
 bO)
 (aE (aR 5 mG.nd (aP (cG (own:=false) (aA gL (aA gL (aA gL aB)))) (aK aS (aA (uv 0) (aA aO aB)))))
 (aE (cF (cB Dy (uv 3) aO)
 (aJ (bC (bN (aA (uv 5) (aA (uv 4) (aA (aK nM (aA (uv 0) (aA (uv 1) aB))) aB))))))
 bO)
 (aE (cF (cB Dy (uv 3) aO)
 (aJ (bC (bN (aA (uv 5) (aA (aK nM (aA (uv 0) (aA (uv 1) aB))) (aA (uv 4) aB))))))
 bO)
 (aJ (bC (bN (aA (uv 5) (aA (bN (aA gL (aA (aK nM (aA (uv 0) (aA (uv 1) aB))) aB))) (aA (bN (aA gL (aA (aK nM (aA (uv 0) (aA (uv 1) aB))) (aA (uv 4) aB)))) aB))))))))))))) ?_
 rintro us M Q ⟨ff,d,x,names,k,rfl,hf,h1,h2,h3,hn,hnm,hk,q⟩;refine ⟨rfl,?_⟩;refine aH fun V hV=>?_;refine bX fun A B hA hB=>?_;simp! only [true_and]
 cases k with
 | zero =>
  rw [if_pos (by simp)];subst hA;simp! only [bU];exact ⟨ff,d,x,names,rfl,hf,h1,h2,h3,hn,hnm,fun t d' x' a1 a2 a3 k1 k2 k3=>aU (q t d' x' (fun _=>a1) (fun i e=>by omega) a2 (by omega) k1 k2 k3)⟩
 | succ k =>
  rw [if_neg (by simp;omega)];subst hB;simp only [cE];subst hV;refine aH fun V hV=>?_;simp! only [aY,hName];refine ⟨ff,d,x,8,rfl,hf,h1,h2,h3,by decide,by decide,fun n d1 x1 n0 n8 g1 g2 g3=>?_⟩;subst hV;refine aH fun V hV=>?_;simp! only [aY,hName];have ek:((k + 1:Nat):Int) - 1=(k:Int):=by omega
  rw [ek]
  have hpc:(Wt.piece (k:Int)).toU=.tup [.str "piece",.int (k:Int)]:=rfl
  have hg0:(Wt.piece (k:Int)).good ((k + 1:Nat):Int):=⟨by omega,by omega⟩;subst hV;refine aH fun V hV=>?_;refine bX fun A B hA hB=>?_;simp! only [true_and];refine kP (fun _=>?_) (fun _=>?_)
  ·subst hA
   simp! only [bU];exact aU (q (.turn (.piece k)) d1 x1 (fun z=>by omega) (fun i e=>⟨by cases e;exact rfl,fun j z=>by cases z⟩) hg0 (by simp [Wt.dep]) g1 g2 g3)
  ·subst hB
   simp only [cE];subst hV;refine aH fun V hV=>?_;simp! only [aY,hName];refine ⟨ff,d1,x1,3,rfl,aD,g1,g2,g3,by decide,by decide,fun n2 d2 x2 a0 a3 k1 k2 k3=>?_⟩;obtain ⟨o,ho⟩:=Ec a0 a3;simp! only [true_and];refine ⟨_,ho,?_⟩;subst hV;refine aH fun V hV=>?_;refine bX fun A B hA hB=>?_;simp! only [true_and];refine kP (fun _=>?_) (fun _=>?_)
   ·subst hA
    simp! only [bU];refine ⟨ff,d2,x2,names,rfl,aD,k1,k2,k3,hn,hnm,fun t d' x' a1 a2 a3 j1 j2 j3=>?_⟩;rw [aZ];exact aU (q (.two o (.piece k) t) d' x' (fun z=>by omega) (fun i e=>⟨by cases e;exact .inl ⟨rfl,a1⟩,fun j z=>by cases z⟩) ⟨hg0,oG (by omega) a2⟩ (by simp only [Wt.dep];omega) j1 j2 j3)
   ·subst hB
    simp only [cE];subst hV;refine aH fun V hV=>?_;refine bX fun A B hA hB=>?_;simp! only [true_and];refine kP (fun _=>?_) (fun _=>?_)
    ·subst hA
     simp! only [bU];refine ⟨ff,d2,x2,names,rfl,aD,k1,k2,k3,hn,hnm,fun t d' x' a1 a2 a3 j1 j2 j3=>?_⟩;rw [aZ];exact aU (q (.two o t (.piece k)) d' x' (fun z=>by omega) (fun i e=>⟨by cases e;exact .inr ⟨a1,rfl⟩,fun j z=>by cases z⟩) ⟨oG (by omega) a2,hg0⟩ (by simp only [Wt.dep];omega) j1 j2 j3)
    ·subst hB
     simp only [cE];subst hV;simp! only [bU];refine ⟨ff,d2,x2,names,rfl,aD,k1,k2,k3,hn,hnm,fun t d' x' a1 a2 a3 j1 j2 j3=>?_⟩;refine ⟨ff,d',x',names,rfl,aD,j1,j2,j3,hn,hnm,fun t2 d'' x'' b1 b2 b3 i1 i2 i3=>?_⟩;rw [aZ,aZ];exact aU (q (.two o (.turn t) (.two .sum t2 (.piece k))) d'' x'' (fun z=>by omega) (fun i e=>⟨by cases e;exact .inr ⟨a1,.inr ⟨b1,rfl⟩⟩,fun j z=>by cases z⟩) ⟨oG (by omega) a2,oG (by omega) b2,hg0⟩ (by simp only [Wt.dep];omega) i1 i2 i3)
def Mp (xw pl:Addr) (ts:List Wt) (goals:List (Nat × Str)):List (Str × U):=[(Str.ofString "wiring",.ref xw),(Str.ofString "web",k9 ts),(Str.ofString "goals",.lst (goals.map lM)),(Str.ofString "labels",.ref pl)]
def F9 (C D:Addr):bE:=fun us M Q=>∃ (x dx:Addr) (cs:List Str) (tls:List Tl) (ts:List Wt) (goals:List (Nat × Str)),us=[.ref x,dP cs tls,k9 ts,.lst (goals.map lM)]/\M x=some (.ins D dx [])/\lW cs tls /\
 ∀ (xw dxw pl:Addr) (M':aG),M xw=none->M pl=none->pl≠xw->M' x=some (.ins D dx (Mp xw pl ts goals))->M' xw=some (.ins C dxw (fA cs (aN tls) (bB cs tls) (gB cs tls)))->M' pl=some (.dN [])->(∀ b,b≠x->b≠xw->b≠pl->M' b=M b)->Q .non M'
theorem NU {C D:Addr} (F:cI K "__init__" "Fronts.__init__" iM f fd) (hMk:Mk K D f) (hgl:mg "Fronts"=some (.ref D)) (c_Fronts:L2.fT K D) (n_wiring:bL K D "wiring") (n_web:bL K D "web") (n_goals:bL K D "goals") (n_labels:bL K D "labels") (K_Wiring:oJ P w K mg base 9 "Wiring" C (B7 C)):oJ P w K mg base 11 "Fronts" D (F9 C D):=by
 refine A3 F hMk hgl Br (Sn fun _ _ _ _ _ _ _ _ _ _=>rfl) (fun us M Q h=>by obtain ⟨_,_,_,_,_,_,rfl,_⟩:=h;rfl) (aE (mX c_Fronts n_wiring (uv 0) (Cb K_Wiring (aA (uv 1) aB)))
 (aE (mX c_Fronts n_web (uv 0) (uv 2))
 (aE (mX c_Fronts n_goals (uv 0) (uv 3))
 (aJ (mX c_Fronts n_labels (uv 0) MK))))) ?_
 rintro us M Q ⟨x,dx,cs,tls,ts,goals,rfl,hx,hT,q⟩;refine aH fun V hV=>?_;simp! only [m5,AY];refine fun xw dxw hxw hdxw ne=>⟨xw,dxw,cs,tls,rfl,aD,hT,rfl,?_⟩;have exw:x≠xw:=fun z=>by rw [<- z,hx] at hxw;cases hxw
 rw [aZ];simp only [aF exw,hx];refine ⟨trivial,by decide,?_⟩;subst hV;refine aH fun V hV=>?_;simp! only [m5];refine ⟨Nat.le_of_ble_eq_true rfl,?_⟩;subst hV;refine aH fun V hV=>?_;simp! only [m5];refine ⟨Nat.le_of_ble_eq_true rfl,?_⟩;subst hV;simp! only [m5,J6];refine fun pl hpl=>?_;have epx:x≠pl:=fun z=>by rw [<- z,aD] at hpl;cases hpl
 rw [aF (Ne.symm epx)] at hpl;have epw:pl≠xw:=fun z=>by rw [z,aD] at hpl;cases hpl
 rw [aF epw] at hpl;simp only [aF epx,aD];refine ⟨trivial,Nat.le_of_ble_eq_true rfl,aU (q xw dxw pl _ hxw hpl epw aD ?_ ?_ fun b h1 h2 h3=>?_)⟩
 ·rw [aF (Ne.symm exw),aF (Ne.symm epw),aF (Ne.symm exw),aD]
 ·rw [aF (Ne.symm epx),aD]
 ·rw [aF h1,aF h3,aF h1,aF h2]
end
def tD:Option Str->PyData
 | none=>.none
 | some s=>.str s
def lU (fr:List (Option Str)):PyData:=.tuple (fr.map tD)
theorem D8:∀ fr:List (Option Str),cN (fr.map jV)=some (fr.map tD)
 | []=>rfl
 | none :: fr=>by simp only [List.map_cons,jV,tD,cN,toD,D8 fr,Option.bind,Option.map]
 | some s :: fr=>by simp only [List.map_cons,jV,tD,cN,toD,D8 fr,Option.bind,Option.map]
theorem U7 (k:Option Str) (h:∀ s,k=some s->PyData.strOk s=true):dQ (tD k)=true:=by
 cases k with
 | none=>rfl
 | some s=>exact h s rfl
theorem OH:∀ fr:List (Option Str),(∀ s,some s∈fr->PyData.strOk s=true)->iX (fr.map tD)=true
 | [],_=>rfl
 | k :: fr,h=>by
  simp only [List.map_cons,iX,Bool.and_eq_true];exact ⟨U7 k fun s e=>h s (by rw [e];exact List.mem_cons_self),OH fr fun s hs=>h s (List.mem_cons_of_mem _ hs)⟩
theorem LU {a b:List (Option Str)} (h:lU a=lU b):a=b:=by
 unfold lU at h
 injection h with h
 refine (List.map_inj_right (fun x y e=>?_)).mp h;cases x <;> cases y <;> simp_all [tD]
theorem Hj:∀ fr:List (Option Str),PyData.depthAll (fr.map tD)<=1
 | []=>by simp [PyData.depthAll]
 | none :: fr=>by have:=Hj fr;simp only [List.map_cons,tD,PyData.depthAll,PyData.depth];omega
 | some s :: fr=>by have:=Hj fr;simp only [List.map_cons,tD,PyData.depthAll,PyData.depth];omega
theorem U8 {fr:List (Option Str)} (h:∀ s,some s∈fr->PyData.strOk s=true):E9 (.tup (fr.map jV))=some (lU fr):=by
 unfold E9;rw [show toD (.tup (fr.map jV))=some (lU fr) from by simp only [toD,D8,Option.bind,Option.map,lU]];dsimp only
 have hd:(lU fr).depth<=8:=by
  have:=Hj fr
  simp only [lU,PyData.depth];omega
 rw [if_pos ⟨OH fr h,hd,rfl⟩]
section
variable {P:Program} {w:World} {K:PySem.W.Frag} {mg:Str->Option Value} {base:Heap} {f d d2 fl:Addr} {fd:FuncData}
section
variable {κ:Type} [DecidableEq κ]
theorem Gm (k k':κ) (u:U):∀ kvs:List (κ × U),dS (kvs.map fun kv=>if kv.1=k then (kv.1,u) else kv) k'=if k'=k then (dS kvs k').map (fun _=>u) else dS kvs k'
 | []=>by simp [dS]
 | x :: kvs=>by
  have ih:=Gm k k' u kvs;rw [List.map_cons]
  by_cases hx:x.1=k
  ·rw [if_pos hx]
   by_cases hk:x.1=k'
   ·rw [j6 (p:=(x.1,u)) hk,j6 hk,if_pos (hk.symm.trans hx)];rfl
   ·rw [kB (p:=(x.1,u)) hk,ih,kB hk]
  ·rw [if_neg hx]
   by_cases hk:x.1=k'
   ·rw [j6 hk,j6 hk,if_neg (fun z=>hx (hk.trans z))]
   ·rw [kB hk,ih,kB hk]
theorem DE (k k':κ) (u:U):∀ kvs:List (κ × U),dS (kvs++[(k,u)]) k'=match dS kvs k' with | some w=>some w | none=>if k'=k then some u else none
 | []=>by
  by_cases h:k=k'
  ·rw [List.nil_append,j6 h,DS,if_pos h.symm]
  ·rw [List.nil_append,kB h,DS,if_neg (fun z=>h z.symm)]
 | x :: kvs=>by
  rw [List.cons_append]
  by_cases hk:x.1=k'
  ·rw [j6 hk,j6 hk]
  ·rw [kB hk,DE k k' u kvs,kB hk]
theorem Gy (kvs:List (κ × U)) (k k':κ) (u:U):dS (jF kvs k u) k'=if k'=k then some u else dS kvs k':=by
 cases h:dS kvs k with
 | none =>
  rw [Nh h,DE]
  by_cases e:k'=k
  ·subst e;rw [h];first | done | simp
  ·rw [if_neg e];cases h2:dS kvs k' <;> simp [e]
 | some w =>
  rw [LX h,Gm]
  by_cases e:k'=k
  ·subst e;rw [if_pos rfl,if_pos rfl,h];rfl
  ·rw [if_neg e,if_neg e]
end
def Gi (cs:List Str) (tls:List Tl) (ts:List Wt) (kvs:List (PyData × U)):Prop:=∀ (fr:List (Option Str)) (t:Wt) (u:U),ts[fr.length]?=some t->dS kvs (lU fr)=some u->u=eT (eE cs (aN tls) (bB cs tls) (gB cs tls) (cR cs (aN tls) (bB cs tls) (gB cs tls) (ts.zip fr)).2 t)
def GY (C D Pt0:Addr):bE:=fun us M Q=>∃ (x dx xw dxw pl:Addr) (cs:List Str) (tls:List Tl) (ts:List Wt) (goals:List (Nat × Str)) (fr:List (Option Str)) (kvs:List (PyData × U)),us=[.ref x,.tup (fr.map jV)]/\M x=some (.ins D dx (Mp xw pl ts goals))/\M xw=some (.ins C dxw (fA cs (aN tls) (bB cs tls) (gB cs tls)))/\M pl=some (.dN kvs) /\
 lW cs tls/\Gp ts/\(∀ g∈goals,g.2∈cs)/\goals.length<=100/\(∀ s,some s∈fr->s∈cs)/\(∀ s∈cs,PyData.strOk s=true)/\fr.length<=ts.length/\Gi cs tls ts kvs/\kvs.length + ts.length<=20000/\M Pt0=some (.tbl QT) /\
 ∀ kvs',Gi cs tls ts kvs'->kvs'.length<=kvs.length + ts.length->Q (oN (l8 cs tls ts goals fr)) (mup M pl (.dN kvs'))
theorem uW {α β:Type}:∀ (l:List α) (m:List β) (i:Nat),l.zip (m.take i)=(l.zip m).take i
 | [],_,i=>by simp
 | _ :: _,[],i=>by simp
 | a :: l,b :: m,0=>by simp
 | a :: l,b :: m,i + 1=>by simp only [List.take_succ_cons,List.zip_cons_cons,uW l m i]
variable {C Pt0:Addr}
theorem Md {D:Addr} (F:cI K "price_of" "Fronts.price_of" eV f fd) (hmt:Meth K D "price_of" f) (c_Fronts:L2.fT K D) (n_wiring:bL K D "wiring") (n_web:bL K D "web") (n_goals:bL K D "goals") (n_labels:bL K D "labels") (dB:mg "enumerate"=none) (rM:Callee P w K mg base 17 "tree_label" (Cd C Pt0) []) (A0:Callee P w K mg base 4 "behind_choice" (EZ C) []) (Di:Callee P w K mg base 2 "state_price" (F6 C) []):qK P w K mg base 19 D "price_of" (GY C D Pt0):=by
 refine Bc F hmt dZ (rQ fun _ _ _ _ _ _ _ _=>rfl) (fun us M Q h=>by obtain ⟨_,_,_,_,_,_,_,_,_,_,_,rfl,_⟩:=h;rfl) (aE (aR 2 dZ.nd (bN (aA aO (aA (cG (own:=true) aB) aB))))
 (aE (eI (wQ dB (aA (uv 1) aB)) (lZ (n:=2) (bV (aX (k:=1000) 3 dZ.nd) (bV (aX (k:=1000) 4 dZ.nd) kJ)))
 (aE (aR 5 dZ.nd (t9 (own:=false) (uv 1) qP (qM (uv 3))))
 (aE (cF (cB K8 (uv 5) (cH c_Fronts n_labels (uv 0)))
 (aJ (Ny (aK rM (aA (cH c_Fronts n_wiring (uv 0)) (aA (aP (cH c_Fronts n_web (uv 0)) (uv 3)) (aA (aP (uv 2) aO) aB)))) (cH c_Fronts n_labels (uv 0)) (uv 5)))
 bO)
 (aJ (aR 2 dZ.nd (aK A0 (aA (cH c_Fronts n_wiring (uv 0)) (aA (uv 2) (aA (Ng (cH c_Fronts n_labels (uv 0)) (uv 5)) (aA (uv 4) aB))))))))))
 (aJ (bC (aK Di (aA (cH c_Fronts n_wiring (uv 0)) (aA (uv 2) (aA (cH c_Fronts n_goals (uv 0)) aB)))))))) ?_
 rintro us M Q ⟨x,dx,xw,dxw,pl,cs,tls,ts,goals,fr,kvs,rfl,hx,hxw,hpl,hT,hWb,hgc,hgl,hfr,hso,hfl,hK,hkl,hP,q⟩;have hW:=UH hT;refine aH fun V hV=>?_;simp! only [aY,hName];refine fun r0 hr0=>?_;subst hV;refine aH fun V hV=>?_;have e0r:pl≠r0:=fun z=>by rw [<- z,hpl] at hr0;cases hr0
 generalize hps:aN tls=ps at *;generalize hld:bB cs tls=lds at *;generalize hst:gB cs tls=st at *
 refine eP (S:=⟨none,numbered (fr.map jV)⟩) (M1:=mup M r0 (.lst [])) (fun R r=>by simp! only [true_and];exact r)
  (fun i τ' M'=>∃ (r:Addr) (e3 e4 e5:Option U) (kk:List (PyData × U)),τ'=[some (.ref x),some (.tup (fr.map jV)),some (xS (cR cs ps lds st ((ts.zip fr).take i)).1 r),e3,e4,e5]/\M' pl=some (.dN kk)/\(∀ b mo,b≠pl->M b=some mo->M' b=some mo)/\M' r=some (.lst ((cR cs ps lds st ((ts.zip fr).take i)).2.map eT))/\Gi cs tls ts kk/\kk.length<=kvs.length + i/\i<=fr.length)
  ⟨r0,none,none,none,kvs,rfl,by rw [aF e0r];exact hpl,fun b mo _ hb=>by rw [aF (fun z=>by rw [z,hr0] at hb;cases hb)];exact hb,aD,hK,Nat.le_refl _,Nat.zero_le _⟩ (fun i τ' M' _=>fun a e=>by cases e) ?_ ?_
 ·rintro i v τ' M' hi ⟨r,e3,e4,e5,kk,rfl,hp',ho',hr',hK',hkl',_⟩
  obtain ⟨u,hu,rfl⟩:=nR hi;rw [List.getElem?_map] at hu
  cases hk:fr[i]? with
  | none=>rw [hk] at hu;cases hu
  | some k =>
   rw [hk] at hu;cases hu;have hil:i < fr.length:=(List.getElem?_eq_some_iff.mp hk).1;have ht:ts[i]?=some (ts[i]'(by omega)):=List.getElem?_eq_getElem (by omega);generalize ts[i]'(by omega)=t at ht;simp! only [kO,j5,mN,hName];refine aH fun V2 hV2=>?_;simp! only [aY,hName];rw [BJ,DQ fr (by omega)];have hnk:E9 (.tup ((fr.take i).map jV))=some (lU (fr.take i)):=U8 fun s hs=>hso s (hfr s (List.mem_of_mem_take hs));have htl:(fr.take i).length=i:=by rw [List.length_take];omega
   have hzt:(ts.zip fr).take i=ts.zip (fr.take i):=(uW ts fr i).symm;have hx':=ho' x _ (fun z=>by rw [z,hpl] at hx;cases hx) hx;have hxw':=ho' xw _ (fun z=>by rw [z,hpl] at hxw;cases hxw) hxw;have hP':=ho' Pt0 _ (fun z=>by rw [z,hpl] at hP;cases hP) hP;subst hV2;refine aH fun V2 hV2=>?_;refine bX fun A B hA hB=>?_;have elx:x≠pl:=fun z=>by rw [z,hpl] at hx;cases hx
   have elw:xw≠pl:=fun z=>by rw [z,hpl] at hxw;cases hxw
   have elr:r≠pl:=fun z=>by rw [z,hp'] at hr';cases hr'
   have elP:Pt0≠pl:=fun z=>by rw [z,hpl] at hP;cases hP
   have h10:=hWb.len;have hzl:(ts.zip fr).length<=ts.length:=by rw [List.length_zip];omega
   have hzi:i < (ts.zip fr).length:=by rw [List.length_zip];omega
   have hze:(ts.zip fr)[i]?=some (t,k):=by rw [List.getElem?_zip_eq_some];exact ⟨ht,hk⟩
   obtain ⟨g1,g2⟩:=rA (cs:=cs) (ps:=ps) (lds:=lds) (st:=st) (fr:=fr) hWb.ok i (by omega);have hst1:cR cs ps lds st ((ts.zip fr).take (i + 1))=kS cs ps lds (cR cs ps lds st ((ts.zip fr).take i)) (eE cs ps lds st (cR cs ps lds st ((ts.zip fr).take i)).2 t) k:=by rw [List.take_add_one,hze,Option.toList_some,m7]
   have hval:∀ u,dS kk (lU (fr.take i))=some u->u=eT (eE cs ps lds st (cR cs ps lds st ((ts.zip fr).take i)).2 t):=fun u hu=>by
    rw [hzt]
    have:=hK' (fr.take i) t u (by rw [htl];exact ht) hu
    rw [hps,hld,hst] at this;exact this
   have hput:Gi cs tls ts (jF kk (lU (fr.take i)) (eT (eE cs ps lds st (cR cs ps lds st ((ts.zip fr).take i)).2 t))):=fun fr2 t2 u2 ht2 hu2=>by
    rw [Gy] at hu2
    by_cases e:lU fr2=lU (fr.take i)
    ·rw [if_pos e] at hu2
     cases hu2;have e:=LU e;subst e;rw [htl,ht] at ht2;cases ht2;rw [hzt,hps,hld,hst]
    ·rw [if_neg e] at hu2;exact hK' fr2 t2 u2 ht2 hu2
   generalize cR cs ps lds st ((ts.zip fr).take i)=c at *;have hgd:t.good c.2.length:=by rw [g1];exact hWb.ok i _ ht
   have hlf:=uN (ps:=ps) (lds:=lds) (st:=st) g2 hgd;have hX:∀ kk2,mup M' pl (.dN kk2) x=some (.ins D dx (Mp xw pl ts goals)):=fun kk2=>by rw [aF elx];exact hx'
   have f1:∀ kk2,cK D (Str.ofString "wiring") (.ref x) (mup M' pl (.dN kk2))=some (.ref xw):=fun kk2=>(bS (hX kk2)).trans rfl
   have f2:∀ kk2,cK D (Str.ofString "web") (.ref x) (mup M' pl (.dN kk2))=some (k9 ts):=fun kk2=>(bS (hX kk2)).trans rfl
   have f4:∀ kk2,cK D (Str.ofString "labels") (.ref x) (mup M' pl (.dN kk2))=some (.ref pl):=fun kk2=>(bS (hX kk2)).trans rfl
   rw [show M'=mup M' pl (.dN kk) from (EC hp').symm];have hXw:∀ kk2,mup M' pl (.dN kk2) xw=some (.ins C dxw (fA cs ps lds st)):=fun kk2=>by rw [aF elw];exact hxw'
   have hR:∀ kk2,mup M' pl (.dN kk2) r=some (.lst (c.2.map eT)):=fun kk2=>by rw [aF elr];exact hr'
   have fin:∀ kk2,dS kk2 (lU (fr.take i))=some (eT (eE cs ps lds st c.2 t))->Gi cs tls ts kk2->kk2.length<=kvs.length + (i + 1)->V2 [some (.ref x),some (.tup (fr.map jV)),some (xS c.1 r),some (.int (i:Int)),some (jV k),some (.tup ((fr.take i).map jV))] (mup M' pl (.dN kk2)):=fun kk2 hv2 hK2 hl2=>by
    subst hV2;simp! only [aY,hName,fX,f1,f4,AI,tJ,hnk,hv2];refine ⟨xw,dxw,r,cs,ps,lds,st,c,eE cs ps lds st c.2 t,k,rfl,fun s e=>hfr s (by rw [<- e];exact List.mem_of_getElem? hk),hXw kk2,hW,hR kk2,by omega,hlf,fun r2 hr2=>?_⟩;have e2:pl≠r2:=fun z=>by rw [<- z,aD] at hr2;cases hr2
    refine ⟨r2,_,_,_,kk2,by rw [hst1],by rw [aF e2,aD],fun b mo hb hm=>?_,by rw [hst1,aD],hK2,hl2,by omega⟩;have hb2:=ho' b mo hb hm;rw [aF (fun z=>by rw [z] at hb hb2;rw [aF hb,hb2] at hr2;cases hr2),aF hb];exact hb2
   simp! only [Dw,fX,f4,tJ,hnk]
   cases hkk:dS kk (lU (fr.take i)) with
   | some u =>
    rw [hval u hkk] at hkk;rw [if_neg (by simp)];subst hB;exact fin kk hkk hK' (by omega)
   | none =>
    rw [if_pos (by simp)];subst hA;simp! only [JS,fX,f1,f2,f4,k9,xS];refine ⟨t.toU,fK (by rw [List.getElem?_map,ht];rfl),?_⟩;refine ⟨xw,dxw,r,cs,ps,lds,st,c.2,t,rfl,hWb.dep _ (List.mem_of_getElem? ht),hgd,hXw kk,hW,hR kk,g2,by rw [aF elP];exact hP',?_⟩;simp! only [fX,f4,hnk];refine ⟨by simp only [sizeLine];omega,?_⟩;exact fin _ (by rw [Gy,if_pos rfl]) hput (Nat.le_trans (M7 _ _ _) (by omega))
 ·rintro τ' M' ⟨r,e3,e4,e5,kk,rfl,hp',ho',hr',hK',hkl',_⟩
  have hzl:(Src.mk none (numbered (fr.map jV))).xs.length=fr.length:=by show (numbered (fr.map jV)).length=_;rw [kX,List.length_map]
  rw [hzl] at hr' hkl';rw [hzl];have hz2:(ts.zip fr).length=fr.length:=by rw [List.length_zip];omega
  have g2:=(rA (cs:=cs) (ps:=ps) (lds:=lds) (st:=st) (fr:=fr) hWb.ok (ts.zip fr).length (Nat.le_refl _)).2;rw [<- hz2,List.take_length] at hr';rw [List.take_length] at g2;rw [<- hz2,List.take_length];show V _ _;subst hV;have hx':=ho' x _ (fun z=>by rw [z,hpl] at hx;cases hx) hx;have hxw':=ho' xw _ (fun z=>by rw [z,hpl] at hxw;cases hxw) hxw
  have f1:cK D (Str.ofString "wiring") (.ref x) M'=some (.ref xw):=(bS hx').trans rfl
  have f3:cK D (Str.ofString "goals") (.ref x) M'=some (.lst (goals.map lM)):=(bS hx').trans rfl
  simp! only [bU,fX,f1,f3];refine ⟨xw,dxw,r,cs,ps,lds,st,cR cs ps lds st (ts.zip fr),goals,rfl,hgc,hgl,hxw',hr',g2,⟨_,mup M pl (.dN kk),fun b mo hb=>?_,.inl rfl,?_⟩⟩
  ·by_cases e:b=pl
   ·subst e;rw [aD] at hb;rw [hp'];exact hb
   ·rw [aF e] at hb;exact ho' b mo e hb
  ·have q:=q kk hK' (by omega)
   unfold l8 at q;rw [hps,hld,hst] at q;exact q
def lS (a b:Option Nat):Prop:=b=none\/∃ x y,a=some x/\b=some y/\x<=y
theorem lS.refl (a:Option Nat):lS a a:=by
 cases a with
 | none=>exact .inl rfl
 | some x=>exact .inr ⟨x,x,rfl,rfl,Nat.le_refl _⟩
variable {a:Option Nat} {R R':List (Option Nat)}
theorem Ff {a':Option Nat} (h:lS a a') (h':lS (bT R) (bT R')):lS (bT (a :: R)) (bT (a' :: R')):=by
 rcases h with rfl | ⟨x,y,rfl,rfl,hxy⟩
 ·exact .inl rfl
 ·rcases h' with e | ⟨p,q,e1,e2,hpq⟩
  ·exact .inl (by simp only [bT,e,Option.map_none])
  ·exact .inr ⟨x + p,y + q,by simp only [bT,e1,Option.map_some],by simp only [bT,e2,Option.map_some],by omega⟩
theorem Nq {v:Option Nat} (h':lS (bT R) (bT R')):lS (bT R) (bT (v :: R')):=by
 cases v with
 | none=>exact .inl rfl
 | some x =>
  rcases h' with e | ⟨p,q,e1,e2,hpq⟩
  ·exact .inl (by simp only [bT,e,Option.map_none])
  ·exact .inr ⟨p,x + q,e1,by simp only [bT,e2,Option.map_some],by omega⟩
theorem Fo (cs:List Str) (labs:List (List (Option Nat))) (l:List (Option Nat)):∀ goals,lS (bT (reachF cs labs goals)) (bT (reachF cs (labs++[l]) goals))
 | []=>lS.refl _
 | g :: goals=>by
  have ih:=Fo cs labs l goals;unfold reachF at ih ⊢;rw [List.filterMap_cons,List.filterMap_cons]
  by_cases h:g.1 < labs.length
  ·have e1:gC cs labs g=some (kZ (labs[g.1]?.getD []) (eY cs g.2)):=by unfold gC;rw [if_pos h]
   have e2:gC cs (labs++[l]) g=some (kZ (labs[g.1]?.getD []) (eY cs g.2)):=by unfold gC;rw [if_pos (by rw [List.length_append];omega),List.getElem?_append_left h]
   rw [e1,e2];exact Ff (lS.refl _) ih
  ·have e1:gC cs labs g=none:=by unfold gC;rw [if_neg h]
   rw [e1]
   cases h2:gC cs (labs++[l]) g with
   | none=>exact ih
   | some v=>exact Nq ih
theorem QF (cs:List Str) (ps:List Pt) (lds:List T3) (c:FS) (own:List (Option Nat)) (k:Option Str):lS c.1 (kS cs ps lds c own k).1/\∃ l,(kS cs ps lds c own k).2=c.2++[l]:=by
 cases k with
 | none=>exact ⟨lS.refl _,_,rfl⟩
 | some s =>
  refine ⟨?_,_,rfl⟩;show lS c.1 (bT [c.1,kZ own (eY cs s)])
  cases h:c.1 with
  | none=>exact .inl rfl
  | some x =>
   cases h2:kZ own (eY cs s) with
   | none=>exact .inl rfl
   | some y=>exact .inr ⟨x,x + (y + 0),rfl,rfl,by omega⟩
theorem Ut (cs:List Str) (tls:List Tl) (ts:List Wt) (goals:List (Nat × Str)) (fr:List (Option Str)) (i:Nat):lS (l8 cs tls ts goals (fr.take i)) (l8 cs tls ts goals (fr.take (i + 1))):=by
 unfold l8;generalize aN tls=ps;generalize bB cs tls=lds;generalize gB cs tls=st;rw [uW,uW]
 cases h:(ts.zip fr)[i]? with
 | none=>rw [List.take_add_one,h,Option.toList_none,List.append_nil];exact lS.refl _
 | some p =>
  rw [List.take_add_one,h,Option.toList_some,m7];generalize cR cs ps lds st ((ts.zip fr).take i)=c;obtain ⟨h1,l,h2⟩:=QF cs ps lds c (eE cs ps lds st c.2 p.1) p.2;rw [h2];exact Ff h1 (Fo cs c.2 l goals)
abbrev Fr:=List (Option Str)
def iR (f:Fr):U:=.tup (f.map jV)
theorem lS.trans {b c:Option Nat} (h:lS a b) (k:lS b c):lS a c:=by
 rcases k with rfl | ⟨x,y,rfl,rfl,h1⟩
 ·exact .inl rfl
 ·rcases h with e | ⟨u,v,rfl,e,h2⟩
  ·cases e
  ·cases e;exact .inr ⟨u,y,rfl,rfl,by omega⟩
section
variable {cs:List Str} {tls:List Tl} {ts:List Wt} {goals:List (Nat × Str)}
theorem SR {f F:Fr} (h:f <+: F):lS (l8 cs tls ts goals f) (l8 cs tls ts goals F):=by
 have go:∀ d,lS (l8 cs tls ts goals (F.take f.length)) (l8 cs tls ts goals (F.take (f.length + d))):=by
  intro d
  induction d with
  | zero=>exact lS.refl _
  | succ d ih=>exact ih.trans (Ut cs tls ts goals F (f.length + d))
 have e:=go (F.length - f.length);have hl:=h.length_le;rw [(List.prefix_iff_eq_take.mp h).symm] at e
 rwa [show f.length + (F.length - f.length)=F.length by omega,List.take_length] at e
def Full (cs:List Str) (n:Nat) (F:Fr):Prop:=F.length=n/\∀ s,some s∈F->s∈cs
structure nD (cs:List Str) (tls:List Tl) (ts:List Wt) (goals:List (Nat × Str)) (b:Option (Nat × Fr)) (W:List Fr):Prop where
 len:∀ f∈W,f.length<=ts.length
 ok:∀ f∈W,∀ s,some s∈f->s∈cs
 bb:∀ x,b=some x->Full cs ts.length x.2/\l8 cs tls ts goals x.2=some x.1
 all:∀ F p,Full cs ts.length F->l8 cs tls ts goals F=some p->(∃ x,b=some x/\x.1<=p)\/∃ f∈W,f <+: F
theorem Iv:nD cs tls ts goals none [[]]:=⟨fun f h=>(by cases List.mem_singleton.mp h;exact Nat.zero_le _),fun f h s hs=>(by cases List.mem_singleton.mp h;cases hs),fun x e=>(by cases e),fun F p _ _=>.inr ⟨[],List.mem_singleton.mpr rfl,List.nil_prefix⟩⟩
variable {b:Option (Nat × Fr)} {W:List Fr}
theorem nD.last {f:Fr} (h:nD cs tls ts goals b (W++[f])):f.length<=ts.length/\∀ s,some s∈f->s∈cs:=⟨h.len f (by simp),h.ok f (by simp)⟩
theorem nD.cut {f:Fr} (h:nD cs tls ts goals b (W++[f])) (hp:∀ p,l8 cs tls ts goals f=some p->∃ x,b=some x/\x.1<=p):nD cs tls ts goals b W:=by
 refine ⟨fun g hg=>h.len g (List.mem_append_left _ hg),fun g hg=>h.ok g (List.mem_append_left _ hg),h.bb,fun F p hF e=>?_⟩
 rcases h.all F p hF e with q | ⟨g,hg,hx⟩
 ·exact .inl q
 ·rcases List.mem_append.mp hg with hg | hg
  ·exact .inr ⟨g,hg,hx⟩
  ·cases List.mem_singleton.mp hg
   rcases SR (cs:=cs) (tls:=tls) (ts:=ts) (goals:=goals) hx with z | ⟨u,v,e1,e2,h2⟩
   ·rw [z] at e;cases e
   ·rw [e] at e2;cases e2
    obtain ⟨x,e3,h3⟩:=hp u e1;exact .inl ⟨x,e3,by omega⟩
def kids (cs:List Str) (f:Fr):List Fr:=(none :: cs.map some).map fun k=>f++[k]
theorem nD.more {f:Fr} (h:nD cs tls ts goals b (W++[f])) (hf:f.length < ts.length):nD cs tls ts goals b (W++kids cs f):=by
 obtain ⟨h1,h2⟩:=h.last
 have hk:∀ g∈kids cs f,∃ k:Option Str,g=f++[k]/\∀ s,k=some s->s∈cs:=fun g hg=>by
  obtain ⟨k,hk,rfl⟩:=List.mem_map.mp hg;refine ⟨k,rfl,fun s e=>?_⟩;subst e
  rcases List.mem_cons.mp hk with hk | hk
  ·cases hk
  ·obtain ⟨z,hz,e⟩:=List.mem_map.mp hk
   cases e;exact hz
 refine ⟨fun g hg=>?_,fun g hg s hs=>?_,h.bb,fun F p hF e=>?_⟩
 ·rcases List.mem_append.mp hg with hg | hg
  ·exact h.len g (List.mem_append_left _ hg)
  ·obtain ⟨k,rfl,_⟩:=hk g hg
   rw [List.length_append];exact hf
 ·rcases List.mem_append.mp hg with hg | hg
  ·exact h.ok g (List.mem_append_left _ hg) s hs
  ·obtain ⟨k,rfl,hk2⟩:=hk g hg
   rcases List.mem_append.mp hs with hs | hs
   ·exact h2 s hs
   ·exact hk2 s (List.mem_singleton.mp hs).symm
 ·rcases h.all F p hF e with q | ⟨g,hg,hx⟩
  ·exact .inl q
  ·rcases List.mem_append.mp hg with hg | hg
   ·exact .inr ⟨g,List.mem_append_left _ hg,hx⟩
   ·cases List.mem_singleton.mp hg
    obtain ⟨r,rfl⟩:=hx
    have hr:r≠[]:=fun z=>by
     subst z
     have:=hF.1
     rw [List.append_nil] at this;omega
    obtain ⟨k,r,rfl⟩:=List.exists_cons_of_ne_nil hr;refine .inr ⟨f++[k],List.mem_append_right _ (List.mem_map.mpr ⟨k,?_,rfl⟩),⟨r,by simp⟩⟩
    cases k with
    | none=>exact List.mem_cons_self
    | some s=>exact List.mem_cons_of_mem _ (List.mem_map.mpr ⟨s,hF.2 s (by simp),rfl⟩)
theorem nD.done {f:Fr} (h:nD cs tls ts goals b (W++[f])) (hf:¬ f.length < ts.length) {p:Nat} (hp:l8 cs tls ts goals f=some p) (hb:∀ x,b=some x->p < x.1):nD cs tls ts goals (some (p,f)) W:=by
 obtain ⟨h1,h2⟩:=h.last;refine ⟨fun g hg=>h.len g (List.mem_append_left _ hg),fun g hg=>h.ok g (List.mem_append_left _ hg),fun x e=>(by cases e;exact ⟨⟨by dsimp only;omega,h2⟩,hp⟩),fun F q hF e=>?_⟩
 rcases h.all F q hF e with ⟨x,e1,e2⟩ | ⟨g,hg,hx⟩
 ·exact .inl ⟨_,rfl,by have:=hb x e1;dsimp only;omega⟩
 ·rcases List.mem_append.mp hg with hg | hg
  ·exact .inr ⟨g,hg,hx⟩
  ·cases List.mem_singleton.mp hg
   have:f=F:=hx.eq_of_length (by have:=hF.1;have:=h1;omega)
   subst this;rw [hp] at e;cases e;exact .inl ⟨_,rfl,Nat.le_refl _⟩
end
def Tg:U->Nat
 | .tup l=>l.length
 | _=>0
def UL (n:Nat):Option MO->Nat
 | some (.lst us)=>(us.map fun u=>4 ^ (n - Tg u)).sum
 | _=>0
def nE (n:Nat) (W:List Fr):Nat:=(W.map fun f=>4 ^ (n - f.length)).sum
theorem Ot (n:Nat) (W:List Fr):UL n (some (.lst (W.map iR)))=nE n W:=by
 show ((W.map iR).map fun u=>4 ^ (n - Tg u)).sum=(W.map fun f=>4 ^ (n - f.length)).sum;rw [List.map_map]
 congr 1
 refine List.map_congr_left fun f _=>?_;show 4 ^ (n - (f.map jV).length)=_;rw [List.length_map]
theorem GH (n:Nat) (W:List Fr) (f:Fr):nE n (W++[f])=nE n W + 4 ^ (n - f.length):=by
 unfold nE;rw [List.map_append,List.sum_append];simp
theorem K3 (n:Nat):∀ W:List Fr,W.length<=nE n W
 | []=>Nat.le_refl _
 | f :: W=>by
  have:=K3 n W
  have h:0 < 4 ^ (n - f.length):=Nat.pow_pos (by decide);unfold nE at *;rw [List.map_cons,List.sum_cons,List.length_cons];omega
variable {cs:List Str}
theorem PH {n:Nat} (hc:cs.length<=2) (W:List Fr) {f:Fr} (hf:f.length < n):nE n (W++kids cs f) < nE n (W++[f]):=by
 rw [GH]
 have e:nE n (W++kids cs f)=nE n W + (cs.length + 1) * 4 ^ (n - (f.length + 1)):=by
  unfold nE kids;rw [List.map_append,List.sum_append,List.map_map]
  congr 1
  have h:∀ l:List (Option Str),(l.map ((fun f:Fr=>4 ^ (n - f.length)) ∘ fun k=>f++[k])).sum=l.length * 4 ^ (n - (f.length + 1)):=by
   intro l
   induction l with
   | nil=>simp
   | cons a l ih=>rw [List.map_cons,List.sum_cons,ih,List.length_cons,Nat.succ_mul];simp only [Function.comp,List.length_append,List.length_cons,List.length_nil,Nat.zero_add];omega
  rw [h];simp
 rw [e,show n - f.length=(n - (f.length + 1)) + 1 by omega,Nat.pow_succ];have h:0 < 4 ^ (n - (f.length + 1)):=Nat.pow_pos (by decide)
 have:(cs.length + 1) * 4 ^ (n - (f.length + 1))<=3 * 4 ^ (n - (f.length + 1)):=Nat.mul_le_mul_right _ (by omega)
 omega
def nI:Option (Nat × Fr)->U
 | none=>.tup [.non,.non]
 | some x=>.tup [.int (x.1:Int),iR x.2]
def Ug (cs:List Str) (tls:List Tl) (ts:List Wt) (goals:List (Nat × Str)) (b:Option Nat):Prop:=(∀ p,b=some p->∃ F,Full cs ts.length F/\l8 cs tls ts goals F=some p)/\∀ F p,Full cs ts.length F->l8 cs tls ts goals F=some p->∃ q,b=some q/\q<=p
def JY (Pt0:Addr):bE:=fun us M Q=>∃ (cs:List Str) (tls:List Tl) (ts:List Wt) (goals:List (Nat × Str)),us=[dP cs tls,k9 ts,.lst (goals.map lM)]/\lW cs tls/\Gp ts/\cs.length<=2/\1<=cs.length/\ts.length<=5/\(∀ g∈goals,g.2∈cs)/\goals.length<=100/\(∀ s∈cs,PyData.strOk s=true)/\M Pt0=some (.tbl QT) /\
 ∀ b u1 u2,Ug cs tls ts goals b->Q (.tup [oN b,u1,u2]) M
theorem Pd (cs:List Str) (f:Fr):(U.non :: cs.map U.str).filterMap (fun k=>some (U.tup (f.map jV++[k])))=(kids cs f).map iR:=by
 unfold kids iR;rw [List.filterMap_eq_map',List.map_map,List.map_cons,List.map_cons,List.map_map,List.map_map];refine List.cons_eq_cons.mpr ⟨by simp [jV],List.map_congr_left fun s _=>by simp [jV]⟩
theorem SA (b:Option (Nat × Fr)):∃ u,nI b=.tup [oN (b.map Prod.fst),u]:=by
 cases b with
 | none=>exact ⟨_,rfl⟩
 | some x=>exact ⟨_,rfl⟩
def KP (cs:List Str) (tls:List Tl) (ts:List Wt) (goals:List (Nat × Str)) (x pc pw pl:Addr) (M1:aG):SU->aG->Prop:=fun τ M'=>∃ (b:Option (Nat × Fr)) (W:List Fr) (cu:List U) (kk:List (PyData × U)) (z7 z8:Option U),τ=[some (dP cs tls),some (k9 ts),some (.lst (goals.map lM)),some (.ref x),some (nI b),some (.ref pc),some (.ref pw),z7,z8]/\nD cs tls ts goals b W/\M' pw=some (.lst (W.map iR))/\M' pc=some (.lst cu)/\M' pl=some (.dN kk)/\Gi cs tls ts kk/\(∀ a mo,a≠pl->M1 a=some mo->M' a=some mo)/\cu.length + nE ts.length W<=4 ^ 5/\kk.length + 5 * nE ts.length W<=5 * 4 ^ 5
def N3 (n:Nat) (pw:Addr):SU->aG->Nat:=fun _ M'=>UL n (M' pw)
theorem Jc {D:Addr} (F:cI K "keeping" "keeping" wH f fd) (hm:mg "keeping"=some (.ref f)) (bA:mg "len"=none) (C0:Callee P w K mg base 2 "refuse_many" DX []) (K_Fronts:oJ P w K mg base 11 "Fronts" D (F9 C D)) (c_Fronts:L2.fT K D) (M_price_of:qK P w K mg base 19 D "price_of" (GY C D Pt0)) (wN:Callee P w K mg base 1 "choices" xM []):Callee P w K mg base 20 "keeping" (JY Pt0) []:=by
 refine bQ F hm iV (uD fun _ _ _ _ _ _ _ _ _=>rfl) (aE (dM (aK C0 (aA (uv 0) (aA (uv 1) aB))))
 (aE (aR 3 iV.nd (Cb K_Fronts (aA (uv 0) (aA (uv 1) (aA (uv 2) aB)))))
 (aE (aR 4 iV.nd (bN (aA lX (aA lX aB))))
 (aE (aR 5 iV.nd (cG (own:=true) aB))
 (aE (aR 6 iV.nd (cG (own:=true) (aA (bN aB) aB)))
 (aE (MQ (Bi (uv 6))
 (aE (aR 7 iV.nd (SI (uv 6)))
 (aE (aR 8 iV.nd (B3 M_price_of c_Fronts (uv 3) (aA (uv 7) aB)))
 (aJ (cF (q8.pt (IM (cB G9 (uv 8) lX) (Ek (q8.pt (AS (cB t6 (aP (uv 4) aO) lX) (yI (cB SN (uv 8) (aP (uv 4) aO))))))))
 (aJ (dM (jW (uv 5) (aA (uv 7) aB))))
 (aJ (cF (cB Dy (fB eC bA (aA (uv 7) aB)) (fB eC bA (aA (uv 1) aB)))
 (aJ (dM (xV (uv 6) (aA (nY false ["kept","front"] 1 [7] (eA (aK wN (aA (uv 0) aB))) (aX (k:=1) 0 (by dsimp only [bZ];decide +kernel)) lH (cQ (own:=false) (uv 1) (bN (aA (uv 0) aB)))) aB))))
 (aE (cF (cB t6 (aP (uv 4) aO) lX)
 (aJ (dM (jW (uv 5) (aA (aP (uv 4) aO) aB))))
 bO)
 (aJ (aR 4 iV.nd (bN (aA (uv 8) (aA (uv 7) aB)))))))))))))
 (aJ (bC (bN (aA (aP (uv 4) aO) (aA (aP (uv 4) aO) (aA (uv 5) aB)))))))))))) ?_
 rintro us M Q ⟨cs,tls,ts,goals,rfl,hT,hWb,hc2,hc1,ht5,hgc,hgl,hso,hP,q⟩;refine ⟨rfl,?_⟩;refine aH fun V hV=>?_;simp! only [eK];refine ⟨cs,tls,ts,rfl,hc2,hc1,ht5,?_⟩;subst hV;refine aH fun V hV=>?_;simp! only [aY,hName,AY];refine fun x dx hx hdx ne=>⟨x,dx,cs,tls,ts,goals,rfl,aD,hT,fun xw dxw pl M1 hxw hpl epw i1 i2 i3 i4=>⟨rfl,?_⟩⟩;have exw:xw≠x:=fun z=>by rw [z,aD] at hxw;cases hxw
 have exl:pl≠x:=fun z=>by rw [z,aD] at hpl;cases hpl
 rw [aF exw] at hxw;rw [aF exl] at hpl
 have hs1:Sub M M1:=fun b mo hb=>by
  have nn:∀ a,M a=none->b≠a:=fun a ha z=>by rw [z,ha] at hb;cases hb
  rw [i4 b (nn x hx) (nn xw hxw) (nn pl hpl),aF (nn x hx)];exact hb
 have hP1:=hs1 _ _ hP
 clear i4 hxw hx hdx ne
 subst hV;refine aH fun V hV=>?_;simp! only [aY,hName];subst hV;refine aH fun V hV=>?_;simp! only [aY,hName];refine fun pc hpc=>?_;subst hV;refine aH fun V hV=>?_;simp! only [aY,hName];refine fun pw hpw=>?_;have ecw:pc≠pw:=fun z=>by rw [<- z,aD] at hpw;cases hpw
 rw [aF (Ne.symm ecw)] at hpw;have nc:∀ a mo,M1 a=some mo->a≠pc:=fun a mo h z=>by rw [z,hpc] at h;cases h
 have nw:∀ a mo,M1 a=some mo->a≠pw:=fun a mo h z=>by rw [z,hpw] at h;cases h
 have two:∀ (A B:MO) a mo,M1 a=some mo->mup (mup M1 pc A) pw B a=some mo:=fun A B a mo h=>by rw [aF (nw a mo h),aF (nc a mo h)];exact h
 have hpow:4 ^ ts.length<=4 ^ 5:=Nat.pow_le_pow_right (by decide) ht5;subst hV;refine aH fun V hV=>?_;refine Nz (KP cs tls ts goals x pc pw pl M1) (N3 ts.length pw) ⟨none,[[]],[],[],none,none,rfl,Iv,aD,by rw [aF ecw,aD],two _ _ _ _ i3,(fun fr t u _ h=>by cases h),fun a mo _ h=>two _ _ _ _ h,(by simpa [nE] using hpow),(by have:=hpow;simp [nE];omega)⟩ ?_;rintro τ M' ⟨b,W,cu,kk,z7,z8,rfl,hI,hw,hc,hl,hK,hs,hmu,hkm⟩
 rcases List.eq_nil_or_concat W with rfl | ⟨W,fr,rfl⟩
 ·simp! only [bJ hw,List.isEmpty_nil]
  subst hV;obtain ⟨u1,e1⟩:=SA b;simp! only [bU,e1];refine ⟨_,M,fun a mo h=>?_,.inl rfl,q _ _ _ ⟨fun p e=>?_,fun F p hF e=>?_⟩⟩
  ·exact hs a mo (fun z=>by rw [z,hpl] at h;cases h) (hs1 a mo h)
  ·obtain ⟨y,rfl,rfl⟩:=Option.map_eq_some_iff.mp e
   exact ⟨y.2,hI.bb _ rfl⟩
  ·rcases hI.all F p hF e with ⟨y,rfl,h⟩ | ⟨g,hg,_⟩
   ·exact ⟨_,rfl,h⟩
   ·cases hg
 ·rw [List.concat_eq_append] at hI hw hmu hkm
  have hie:((W++[fr]).map iR).isEmpty=false:=by simp
  simp! only [bJ hw,hie];obtain ⟨hfl,hfc⟩:=hI.last;have hmuS:=GH ts.length W fr;have h1:0 < 4 ^ (ts.length - fr.length):=Nat.pow_pos (by decide);have hmul:=K3 ts.length W;have hpop:((W++[fr]).map iR).getLast?=some (iR fr):=by simp
  have hdr:((W++[fr]).map iR).dropLast=W.map iR:=by simp
  have exl':x≠pl:=Ne.symm exl
  have ewl:pw≠pl:=nw _ _ i3 |>.symm
  have ecl:pc≠pl:=nc _ _ i3 |>.symm
  refine aH fun V1 hV1=>?_;simp! only [aY,hName,hw,hpop,hdr];refine ⟨⟨_,bJ hw⟩,?_⟩;have two':∀ (A:MO) a mo,a≠pl->M1 a=some mo->mup M' pw A a=some mo:=fun A a mo h0 h=>by rw [aF (nw a mo h)];exact hs a mo h0 h
  subst hV1;refine aH fun V1 hV1=>?_;have hx2:=two' (.lst (W.map iR)) x _ exl' i1;simp! only [aY,hName,Aq,hx2];refine ⟨rfl,?_⟩;refine ⟨x,dx,xw,dxw,pl,cs,tls,ts,goals,fr,kk,rfl,hx2,two' _ xw _ (Ne.symm epw) i2,by rw [aF (Ne.symm ewl)];exact hl,hT,hWb,hgc,hgl,hfc,hso,hfl,hK,by omega,two' _ Pt0 _ (fun z=>by rw [z,hpl] at hP;cases hP) hP1,fun kk' hK' hkk'=>?_⟩;have w3:mup (mup M' pw (.lst (W.map iR))) pl (.dN kk') pw=some (.lst (W.map iR)):=by rw [aF ewl,aD]
  have c3:mup (mup M' pw (.lst (W.map iR))) pl (.dN kk') pc=some (.lst cu):=by rw [aF ecl,aF ecw];exact hc
  have l3:mup (mup M' pw (.lst (W.map iR))) pl (.dN kk') pl=some (.dN kk'):=aD;have s3:∀ a mo,a≠pl->M1 a=some mo->mup (mup M' pw (.lst (W.map iR))) pl (.dN kk') a=some mo:=fun a mo h0 h=>by rw [aF h0];exact two' _ a mo h0 h
  generalize mup (mup M' pw (.lst (W.map iR))) pl (.dN kk')=M3 at *;generalize hp:l8 cs tls ts goals fr=p
  have fin:∀ (b':Option (Nat × Fr)) (W':List Fr) (cu':List U) (z8':U) (M4:aG),nD cs tls ts goals b' W'->M4 pw=some (.lst (W'.map iR))->M4 pc=some (.lst cu')->(∀ a,a≠pw->a≠pc->M4 a=M3 a)->nE ts.length W' < nE ts.length (W++[fr])->cu'.length<=cu.length + 1 ->
    KP cs tls ts goals x pc pw pl M1 [some (dP cs tls),some (k9 ts),some (.lst (goals.map lM)),some (.ref x),some (nI b'),some (.ref pc),some (.ref pw),some (iR fr),some z8'] M4/\N3 ts.length pw [some (dP cs tls),some (k9 ts),some (.lst (goals.map lM)),some (.ref x),some (nI b'),some (.ref pc),some (.ref pw),some (iR fr),some z8'] M4 < N3 ts.length pw [some (dP cs tls),some (k9 ts),some (.lst (goals.map lM)),some (.ref x),some (nI b),some (.ref pc),some (.ref pw),z7,z8] M':=by
   intro b' W' cu' z8' M4 hI' hw' hc' hs' hlt hcl;refine ⟨⟨b',W',cu',kk',_,_,rfl,hI',hw',hc',by rw [hs' pl (Ne.symm ewl) (Ne.symm ecl)];exact l3,hK',fun a mo h0 h=>by rw [hs' a (nw a mo h) (nc a mo h)];exact s3 a mo h0 h,by omega,by omega⟩,?_⟩;unfold N3;rw [hw',hw,Ot,Ot];exact hlt
  have hWlt:nE ts.length W < nE ts.length (W++[fr]):=by omega
  have hcul:cu.length < sizeLine:=Nat.lt_of_le_of_lt (show cu.length<=2000 by omega) (by decide);subst hV1;refine bX fun A B hA hB=>?_
  have goA:(∀ p',p=some p'->∃ x,b=some x/\x.1<=p')->A M3:=fun hcut=>by
   subst hA;simp! only [eK,c3];refine ⟨⟨_,bJ c3⟩,hcul,?_⟩;exact fin b W (cu++[iR fr]) (oN p) _ (hI.cut (fun p' e=>hcut p' (hp.symm.trans e))) (by rw [aF (Ne.symm ecw)];exact w3) aD (fun a h1 h2=>aF h2) hWlt (by rw [List.length_append];exact Nat.le_refl _)
  have goB:∀ p',p=some p'->(∀ x,b=some x->p' < x.1)->B M3:=fun p' e hb=>by
   subst e;subst hB;refine bX fun A B hA hB=>?_;simp! only [iR,k9,List.length_map]
   by_cases hlt:fr.length < ts.length
   ·rw [if_pos (by simp;omega)]
    subst hA;simp! only [eK];refine ⟨⟨_,bJ w3⟩,?_⟩;refine Bl (S:=⟨none,.non :: cs.map U.str⟩) (M1:=M3) (fun k=>some (.tup (fr.map jV++[k]))) (fun R r=>by simp! only [true_and];exact ⟨cs,tls,rfl,by omega,by simp! only [RQ];exact r⟩) (by simp only [List.length_cons,List.length_map];exact small (by omega)) (fun a e=>by cases e) (fun z hz M4 _ R r=>?_) ?_
    ·simp! only [hName]
     exact ⟨small (by simp only [List.length_map,List.length_cons,List.length_nil];omega),r⟩
    ·have ek:(Src.mk none (U.non :: cs.map U.str)).xs.filterMap (fun k=>some (.tup (fr.map jV++[k])))=(kids cs fr).map iR:=Pd cs fr
     rw [ek];simp! only [w3];refine ⟨small (by simp only [List.length_map,kids,List.length_cons];omega),?_⟩;exact fin b (W++kids cs fr) cu (oN (some p')) _ (hI.more hlt) (by rw [aD,List.map_append]) (by rw [aF ecw];exact c3) (fun a h1 h2=>aF h1) (PH hc2 W hlt) (by omega)
   ·rw [if_neg (by simp;omega)]
    subst hB;have hI':=hI.done hlt hp hb;refine aH fun V1 hV1=>?_;refine bX fun A B hA hB=>?_
    have goB2:∀ (cu':List U) (M4:aG),M4 pw=some (.lst (W.map iR))->M4 pc=some (.lst cu')->(∀ a,a≠pw->a≠pc->M4 a=M3 a)->cu'.length<=cu.length + 1->V1 [some (dP cs tls),some (k9 ts),some (.lst (goals.map lM)),some (.ref x),some (nI b),some (.ref pc),some (.ref pw),some (iR fr),some (oN (some p'))] M4:=fun cu' M4 h1 h2 h3 h4=>by
     subst hV1;simp! only [aY,hName,oN];exact fin (some (p',fr)) W cu' (.int (p':Int)) M4 hI' h1 h2 h3 hWlt h4
    cases b with
    | none =>
     simp! only [nI];subst hB;simp only [cE];exact goB2 cu M3 w3 c3 (fun _ _ _=>rfl) (by omega)
    | some y =>
     simp! only [nI,iR];subst hA;simp! only [eK,nI,iR,c3];refine ⟨⟨_,bJ c3⟩,hcul,?_⟩;exact goB2 (cu++[iR y.2]) _ (by rw [aF (Ne.symm ecw)];exact w3) aD (fun a h1 h2=>aF h2) (by rw [List.length_append];exact Nat.le_refl _)
  cases p with
  | none =>
   simp! only [oN];exact goA fun p' e=>by cases e
  | some p =>
   cases b with
   | none =>
    simp! only [oN,nI];exact goB p rfl fun x e=>by cases e
   | some y =>
    simp! only [oN,nI]
    by_cases h:y.1<=p
    ·rw [if_pos (by simp;omega)]
     exact goA fun p' e=>by cases e;exact ⟨y,rfl,h⟩
    ·rw [if_neg (by simp;omega)]
     exact goB p rfl fun x e=>by cases e;omega
variable {x:T3}
theorem A2 {s:Nat} {l:List (Option Nat)}:x∈jD s l ↔ x.1=s/\x.2.1≠s/\l[x.2.1]?=some (some x.2.2):=by
 unfold jD;rw [List.mem_filterMap]
 constructor
 ·rintro ⟨⟨v,i⟩,hp,e⟩
  have hi:=List.mem_zipIdx_iff_getElem?.mp hp;unfold rX at e;dsimp only at e hi
  cases v with
  | none=>cases e
  | some n =>
   dsimp only at e
   by_cases h:i=s
   ·rw [if_pos h] at e;cases e
   ·rw [if_neg h] at e;cases e;exact ⟨rfl,h,hi⟩
 ·rintro ⟨h1,h2,h3⟩
  refine ⟨(some x.2.2,x.2.1),List.mem_zipIdx_iff_getElem?.mpr h3,?_⟩;unfold rX;dsimp only;rw [if_neg h2,<- h1]
theorem CK {tls:List Tl}:x∈bB cs tls ↔ x.1 < cs.length/\x.2.1≠x.1/\(xY (m4 cs tls) (cs.length - 1) (iT cs.length x.1))[x.2.1]?=some (some x.2.2):=by
 unfold bB;rw [List.mem_flatMap]
 constructor
 ·rintro ⟨s,hs,h⟩
  obtain ⟨h1,h2,h3⟩:=A2.mp h;subst h1;exact ⟨List.mem_range.mp hs,h2,h3⟩
 ·rintro ⟨h1,h2,h3⟩
  exact ⟨x.1,List.mem_range.mpr h1,A2.mpr ⟨rfl,h2,h3⟩⟩
theorem OJ {u:U}:∀ g:Nat,(List.replicate g [u]).flatten=List.replicate g u
 | 0=>rfl
 | g + 1=>by rw [List.replicate_succ,List.flatten_cons,OJ g,List.replicate_succ];rfl
variable {M:aG} {Q:UK}
theorem PM (b:Option Nat) (q:Q (.bl false) M):Aa true (oN b) (oN b) M Q:=by
 cases b with
 | some n =>
  show Q (.bl (if true then !decide ((n:Int)=n) else decide ((n:Int)=n))) M
  simpa using q
 | none =>
  exact q
theorem Pa {l:List U} {u:U} (h:l.getLast?=some u):dH l (-1)=some u:=by
 have hpos:0 < l.length:=List.length_pos_iff.mpr fun z=>by rw [z] at h;cases h
 rw [List.getLast?_eq_getElem?] at h;unfold dH
 have e:rH l.length (-1)=some (l.length - 1):=by
  unfold rH;rw [if_neg (by omega),if_pos (by omega)]
  congr 1
  omega
 rw [e];exact h
theorem Hf {k:Nat} {ix:List Nat} {wi:UI} {g:UG} {te:UE} {τ:SU} {xs:List U} (J:List U->aG->Prop) (hJ:∀ ys M' D o,M D=none->J ys M'->J ys (mup M' D o)) (h0:J [] M) (hw:∀ R:Src->aG->Prop,R ⟨none,xs⟩ M->wi τ M R) (hz:xs.length<=sizeLine)
  (h:∀ (i:Nat) x ys,xs[i]?=some x->ys.length=i->∀ M':aG,J ys M'->∀ R:UK,(∀ y M2,J (ys++[y]) M2->(∀ b,M b=none->M2 b=M' b)->R y M2)->g x (eQ k ix τ) M' fun τ2 M2=>te τ2 M2 R)
  (q:∀ ys M',ys.length=xs.length->J ys M'->Q (.lst ys) (fun b=>if M b=none then none else M' b)):sO false k ix wi g (fun _ M Q=>Q true M) te τ M Q:=by
 refine hw _ ⟨hz,fun D hD=>?_⟩;refine ⟨fun i ys M'=>ys.length=i/\J ys M'/\M' D=some (.lst ys),⟨rfl,hJ [] M D _ hD h0,aD⟩,?_,?_,?_⟩
 ·rintro i ys M' ⟨hi,hj,hDD⟩
  exact ⟨fun a e=>(by cases e),hDD,by omega⟩
 ·rintro i x ys M' e ⟨hi,hj,hDD⟩
  refine h i x ys e hi M' hj _ fun y M2 hj2 same=>?_;exact ⟨by rw [same D hD,hDD],by rw [List.length_append,hi];rfl,hJ _ _ _ _ hD hj2,aD⟩
 ·rintro ys M' ⟨hi,hj,hDD⟩
  refine ⟨_,fun b mo hb=>?_,if_pos hD,q ys M' hi hj⟩;split at hb
  ·cases hb
  ·exact hb
def Aw (Pt0:Addr):bE:=fun us M Q=>∃ ns:List Int,us=[.lst (ns.map .int)]/\ns.length<=63/\M Pt0=some (.tbl QT)/\Q (.bl true) M
theorem RF (F:cI K "law" "law" qH f fd) (gE:mg "range"=none) (Ij:mg "max"=none) (Hk:mg "min"=none) (bA:mg "len"=none) (gU:mg "tuple"=none) (AG:Callee P w K mg base 1 "_law_feed" Jp []) (aS:Callee P w K mg base 1 "_law_take" nA []) (m9:Callee P w K mg base 2 "_law_unlike" Ak []) (DW:Callee P w K mg base 3 "_law_asking" ED []) (FD:Callee P w K mg base 7 "_law_table" KO []) (Jh:Callee P w K mg base 20 "keeping" (JY Pt0) []) (Ej:Callee P w K mg base 18 "web_labels" (Jm C Pt0) []):fY P w K mg base mB 21 f fd ["script"] (cP K (Aw Pt0)):=by
 refine Qb F nQ (fun us M Q h=>by obtain ⟨x,rfl,_⟩:=h;rfl) (aE (eI (Qr gE (aA aO (aA (fB QW Ij (aA aO (aA (fB T5 Hk (aA aO (aA (fB eC bA (aA (uv 0) aB)) aB))) aB))) (aA aO aB)))) (aX (k:=1000) 1 nQ.nd)
 (aE (aR 2 nQ.nd (aK FD (aA (aK AG (aA (uv 0) (aA (uv 1) aB))) (aA aO aB))))
 (aE (aR 3 nQ.nd (aK AG (aA (uv 0) (aA (cQ (own:=false) (uv 1) aO) aB))))
 (aE (aR 4 nQ.nd (aK m9 (aA (uv 3) (aA aO aB))))
 (aE (aR 5 nQ.nd (cQ (own:=false) aO (aK aS (aA (uv 3) (aA (aP (cG (own:=false) (aA aO (aA aO aB))) (kE (fB eC bA (aA (aP (uv 2) aO) aB)) aO)) aB)))))
 (aE (aR 6 nQ.nd (wW t5 gU (aA (nY false ["number","feed","names"] 1 [3,4] (tO gE (aA (uv 5) aB)) (aX (k:=1) 0 (by dsimp only [bZ];decide +kernel)) lH (aK DW (aA (uv 1) (aA (uv 2) (aA (uv 0) aB))))) aB)))
 (aE (aR 7 nQ.nd (aK aS (aA (uv 3) (aA (fB eC bA (aA (aP (uv 2) aO) aB)) aB))))
 (aE (aR 8 nQ.nd (gX (own:=false) (cG (own:=true) (aA (bN (aA (kE (uv 5) aO) (aA (aP (aP (uv 2) aO) (uv 7)) aB))) aB)) (cQ (own:=false) aO (aK aS (aA (uv 3) (aA aO aB))))))
 (aJ (cF (cB yY (aP (aK Jh (aA (uv 2) (aA (uv 6) (aA (uv 8) aB)))) aO) (aP (aP (aK Ej (aA (uv 2) (aA (uv 6) aB))) (Se aO)) (uv 7)))
 (aJ (bC UN))
 bO))))))))))
 (aJ (bC UN))) ?_
 rintro us M Q ⟨ns,rfl,hl,hP,q⟩;refine aH fun V hV=>?_;generalize hj:(if (if (ns.length:Int) < 6 then (ns.length:Int) else 6) > 2 then (if (ns.length:Int) < 6 then (ns.length:Int) else 6) else 2)=j;have hj8:0<=j/\j<=6:=by rw [<- hj];split <;> split <;> omega
 refine eP (S:=⟨none,lN (half j)⟩) (M1:=M) (fun R r=>by simp! only [HY,List.length_map];rw [hj];exact ⟨hj8.1,by omega,r⟩)
  (fun i τ Mi=>∃ z1 z2 z3 z4 z5 z6 z7 z8:Option U,τ=[some (.lst (ns.map U.int)),z1,z2,z3,z4,z5,z6,z7,z8]/\Sub M Mi) ⟨none,none,none,none,none,none,none,none,rfl,Sub.refl M⟩ nk ?_ ?_
 ·rintro i0 xx τ Mi e ⟨z1,z2,z3,z4,z5,z6,z7,z8,rfl,hSub⟩
  obtain ⟨rfl,hi⟩:=zN e;have hi4:i0<=4:=by unfold half at hi;omega
  have ei:((i0:Int) * 2)=((i0 * 2:Nat):Int):=by omega
  have ei2:((i0 * 2:Nat):Int) + 1=((i0 * 2 + 1:Nat):Int):=by omega
  rw [ei];simp! only [hName];refine aH fun V2 hV2=>?_;simp! only [aY,hName];refine ⟨ns,i0 * 2,rfl,by omega,fun r0 d x hr0 hd hx hx2=>?_⟩;simp! only [true_and];refine ⟨r0,d,x,2,rfl,aD,hd,hx,hx2,by omega,by omega,fun cs tls d1 x1 hT hnd hcm _ c1 c2 c3=>?_⟩;rw [aZ];have hS1:Sub M (mup Mi r0 (.lst (bH d1 x1))):=hSub.mup (U2.Sub.none hSub hr0);generalize mup Mi r0 (.lst (bH d1 x1))=M1 at *
  clear hSub hr0
  have hC:=hT.cls
  have hc1:1<=cs.length:=by
   cases h:cs with
   | nil=>exact absurd h hC.ne
   | cons a b=>simp
  subst hV2;refine aH fun V2 hV2=>?_;simp! only [aY,hName,ei2];refine ⟨ns,i0 * 2 + 1,rfl,by omega,fun r d x hr hd hx hx2=>?_⟩;have hMr:M r=none:=U2.Sub.none hS1 hr;subst hV2;refine aH fun V2 hV2=>?_;simp! only [aY,hName];refine ⟨r,d,x,2,rfl,aD,hd,hx,hx2,by omega,fun names d2 x2 hn2 hnm _ e1 e2 e3=>?_⟩;rw [aZ];subst hV2;refine aH fun V2 hV2=>?_;simp! only [aY,hName,dP,aW,List.length_map]
  obtain ⟨m0,hm0,hm4⟩:∃ m0:Nat,dH [U.int 5,U.int 4] ((cs.length:Int) - 1)=some (.int (m0:Int))/\1<=m0/\m0<=5:=by
   have e:cs.length=1\/cs.length=2:=by omega
   rcases e with e | e <;> rw [e]
   ·exact ⟨5,rfl,by omega,by omega⟩
   ·exact ⟨4,rfl,by omega,by omega⟩
  refine ⟨_,hm0,?_⟩;refine ⟨r,d2,x2,m0,rfl,aD,e1,e2,e3,by omega,by omega,fun n3 d3 x3 a3 b3 f1 f2 f3=>?_⟩;rw [aZ];simp! only [true_and];obtain ⟨m,hm⟩:∃ m:Nat,1 + n3=(m:Int):=⟨(1 + n3).toNat,by omega⟩;rw [hm];subst hV2;refine aH fun V2 hV2=>?_;simp! only [aY,hName]
  refine Hf (xs:=dO 0 m) (fun ys M'=>∃ (ts:List Wt) (d' x':Int),ys=ts.map Wt.toU/\(∀ (i:Nat) t,ts[i]?=some t->(i=0->sP t)/\(∀ j,i=j + 1->Co j t/\∀ j,t≠.piece j)/\t.good i/\t.dep<=4)/\M' r=some (.lst (bH d' x'))/\0<=d'/\0<=x'/\x'<=2147484647/\∀ b mo,b≠r->M1 b=some mo->M' b=some mo)
   (fun ys M' D o hD=>?_) ⟨[],d3,x3,rfl,(fun i t e=>by cases e),aD,f1,f2,f3,fun b mo h1 h2=>by rw [aF h1];exact h2⟩ (fun R rr=>by simp! only [true_and];exact ⟨by omega,by omega,by rw [Int.toNat_natCast];exact rr⟩) (by simp [dO];exact small (by omega)) (fun i y ys hy hil M'=>?_) (fun ys M' hyl=>?_)
  ·rintro ⟨ts,d',x',h1,h2,h3,h4,h5,h6,h7⟩
   have hDr:r≠D:=fun z=>by rw [<- z,aD] at hD;cases hD
   refine ⟨ts,d',x',h1,h2,by rw [aF hDr];exact h3,h4,h5,h6,fun b mo b1 b2=>?_⟩;rw [aF (fun z=>by rw [aF (Ne.symm hDr),<- z,b2] at hD;cases hD)];exact h7 b mo b1 b2
  ·rintro ⟨ts,d',x',rfl,h2,h3,h4,h5,h6,h7⟩ R rr
   obtain ⟨rfl,him⟩:=m6 hy;rw [show (0:Int) + (i:Int)=(i:Int) by omega];rw [List.length_map] at hil;simp! only [hName];refine ⟨r,d',x',names,i,rfl,h3,h4,h5,h6,hn2,hnm,by omega,fun t d5 x5 t1 t2 t3 t4 k1 k2 k3=>?_⟩;refine rr _ _ ⟨ts++[t],d5,x5,by rw [List.map_append];rfl,fun k t' hk=>?_,aD,k1,k2,k3,fun b mo b1 b2=>by rw [aF b1];exact h7 b mo b1 b2⟩ (fun b hb=>aF (fun z=>by rw [z,aD] at hb;cases hb))
   by_cases h:k < ts.length
   ·rw [List.getElem?_append_left h] at hk;exact h2 k t' hk
   ·have hk2:k=ts.length:=by
     have:=(List.getElem?_eq_some_iff.mp hk).1
     rw [List.length_append,List.length_singleton] at this;omega
    subst hk2;rw [List.getElem?_append_right (Nat.le_refl _),Nat.sub_self] at hk;cases hk;subst hil;exact ⟨t1,t2,t3,t4⟩
  ·rintro ⟨ts,d4,x4,rfl,hok,hr4,g1,g2,g3,hold⟩
   have htl:ts.length=m:=by rw [List.length_map] at hyl;rw [hyl];simp [dO]
   have hM4r:(fun b=>if mup M1 r (.lst (bH d3 x3)) b=none then none else M' b) r=some (.lst (bH d4 x4)):=by
    show (if _ then _ else _)=_;rw [if_neg (by rw [aD];exact fun z=>by cases z)];exact hr4
   have hS4:Sub M (fun b=>if mup M1 r (.lst (bH d3 x3)) b=none then none else M' b):=fun b mo hb=>by
    have hbr:b≠r:=fun z=>by rw [z,hMr] at hb;cases hb
    have hb1:=hS1 b mo hb;show (if _ then _ else _)=_;rw [if_neg (by rw [aF hbr,hb1];exact fun z=>by cases z)];exact hold b mo hbr hb1
   generalize (fun b=>if mup M1 r (.lst (bH d3 x3)) b=none then none else M' b)=M4 at *
   clear hold hr4
   have hWb:Gp ts:=⟨by omega,fun i t h=>(hok i t h).2.2.1,fun t ht=>by
    obtain ⟨i,hi⟩:=List.getElem?_of_mem ht
    have:=(hok i t hi).2.2.2;omega⟩
   have hCh:Chain ts:=⟨fun t e=>(hok 0 t e).1 rfl,fun i t e=>(hok (i + 1) t e).2.1 i rfl⟩;simp! only [true_and];subst hV2;refine aH fun V2 hV2=>?_;simp! only [aY,hName,dP,aW,List.length_map];refine ⟨r,d4,x4,cs.length,rfl,hM4r,g1,g2,g3,by omega,by omega,fun n5 d5 x5 a5 b5 k1 k2 k3=>?_⟩;obtain ⟨ip,rfl⟩:∃ i:Nat,n5=(i:Int):=⟨n5.toNat,by omega⟩;have hip:ip < cs.length:=by omega
   have hcp:cs[ip]?=some cs[ip]:=List.getElem?_eq_getElem hip;generalize cs[ip]=s at hcp;have hsm:s∈cs:=List.mem_of_getElem? hcp
   have hix:eY cs s=ip:=by
    have h:=pF hsm;exact (List.getElem?_inj h.1 hnd).mp (h.2.1.trans hcp.symm)
   have hS5:Sub M (mup M4 r (.lst (bH d5 x5))):=hS4.mup hMr;have hr5:mup M4 r (.lst (bH d5 x5)) r=some (.lst (bH d5 x5)):=aD;generalize mup M4 r (.lst (bH d5 x5))=M5 at *;subst hV2;refine aH fun V2 hV2=>?_;have hat:dH (cs.map U.str) (ip:Int)=some (.str s):=fK (by rw [List.getElem?_map,hcp];rfl);simp! only [aY,hName,dP,aW,hat];refine fun p hp=>?_;have hpr:r≠p:=fun z=>by rw [<- z,hr5] at hp;cases hp
   refine ⟨r,d5,x5,6,rfl,by rw [aF hpr];exact hr5,k1,k2,k3,by omega,by omega,fun n6 d6 x6 a6 b6 g4 g5 g6=>?_⟩;simp! only [aF (Ne.symm hpr)];obtain ⟨g,hg⟩:∃ g:Nat,1 + n6=(g:Int):=⟨(1 + n6).toNat,by omega⟩;rw [hg,Int.toNat_natCast,OJ];refine ⟨by omega,by omega,by simp only [Nat.one_mul];exact small (by omega),?_⟩;obtain ⟨n,rfl⟩:∃ n:Nat,m=n + 1:=⟨m - 1,by omega⟩
   have egl:List.replicate g (U.tup [U.int (((n + 1:Nat):Int) - 1),U.str s])=(List.replicate g (n,s)).map lM:=by
    rw [List.map_replicate];rw [show ((n + 1:Nat):Int) - 1=(n:Int) by omega];rfl
   rw [egl];have hS6:Sub M (mup (mup M5 p (.lst [.tup [.int (((n + 1:Nat):Int) - 1),.str s]])) r (.lst (bH d6 x6))):=(hS5.mup (U2.Sub.none hS5 hp)).mup hMr;generalize mup (mup M5 p (.lst [.tup [.int (((n + 1:Nat):Int) - 1),.str s]])) r (.lst (bH d6 x6))=M6 at *;have hP6:=hS6 _ _ hP;subst hV2;refine bX fun A B hA hB=>?_;have h2:K4 cs (bB cs tls):=⟨hcm,fun x hx=>⟨(CK.mp hx).1,(DJ x hx).2,(CK.mp hx).2.1⟩⟩;simp! only [true_and];refine ⟨cs,tls,ts,List.replicate g (n,s),rfl,hT,hWb,hcm,hc1,by omega,fun x hx=>by rw [(List.mem_replicate.mp hx).2];exact hsm,by rw [List.length_replicate];omega,hC.ok,hP6,fun b u1 u2 hb=>?_⟩;simp! only [true_and];refine ⟨cs,tls,ts,rfl,hT,hWb,hP6,fun p2 hp2=>?_⟩;obtain ⟨w1,w2⟩:=tV (cs:=cs) (ps:=aN tls) (lds:=bB cs tls) (st:=gB cs tls) hWb.ok ts.length (Nat.le_refl _);rw [List.take_length] at w1 w2;have w1:(kC cs tls ts).length=ts.length:=w1;have w2:∀ l∈kC cs tls ts,l.length=cs.length:=w2;have hlb:(kC cs tls ts)[n]?=some ((kC cs tls ts)[n]'(by omega)):=List.getElem?_eq_getElem (by omega);have hat1:dH ((kC cs tls ts).map eT) (-1)=some (eT ((kC cs tls ts)[n]'(by omega))):=Pa (by rw [List.getLast?_map,List.getLast?_eq_getElem?,show (kC cs tls ts).length - 1=n by omega,hlb];rfl)
   have hbv:b=kZ ((kC cs tls ts)[n]'(by omega)) ip:=by
    have pge:=fun (F:Fr) (p:Nat) (hF:Full cs ts.length F) (e:l8 cs tls ts (List.replicate g (n,s)) F=some p)=>MB h2 hCh hWb htl (by omega) (hF.1.trans htl) e;rw [hlb,Option.getD_some,hix] at pge;have pis:=fun (w:Nat)=>M8 (tls:=tls) (w:=w) (g:=g) hWb htl hsm;rw [hlb,Option.getD_some,hix] at pis
    cases hv:kZ ((kC cs tls ts)[n]'(by omega)) ip with
    | none =>
     cases b with
     | none=>rfl
     | some q' =>
      obtain ⟨F,hF,e⟩:=hb.1 q' rfl;obtain ⟨v,ev,_⟩:=pge F q' hF e;unfold kZ at hv;rw [ev] at hv;cases hv
    | some w' =>
     obtain ⟨q',rfl,hq⟩:=hb.2 (List.replicate n none++[some s]) w' ⟨by rw [List.length_append,List.length_replicate];exact htl.symm,fun z hz=>by
      rcases List.mem_append.mp hz with hz | hz
      ·cases (List.mem_replicate.mp hz).2
      ·cases List.mem_singleton.mp hz;exact hsm⟩ (pis w' hv)
     obtain ⟨F,hF,e⟩:=hb.1 q' rfl;obtain ⟨v,ev,hv2⟩:=pge F q' hF e;unfold kZ at hv;rw [ev] at hv;cases hv
     congr 1;omega
   have hl2:=w2 _ (List.mem_of_getElem? hlb)
   have hat2:dH (bG ((kC cs tls ts)[n]'(by omega))) (ip:Int)=some (oN b):=by
    have hx:((kC cs tls ts)[n]'(by omega))[ip]?=some (((kC cs tls ts)[n]'(by omega))[ip]'(by omega)):=List.getElem?_eq_getElem (by omega);rw [vR hx,hbv];unfold kZ;rw [hx];rfl
   simp! only [hat1,eT,hat2];subst hA hB;refine PM b ?_;simp! only [cE];exact ⟨_,_,_,_,_,_,_,_,rfl,hS6.mup (U2.Sub.none hS6 hp2)⟩
 ·rintro τ' M' ⟨z1,z2,z3,z4,z5,z6,z7,z8,rfl,hs⟩
  show V _ _;subst hV;simp! only [bU];exact ⟨_,M,hs,.inl rfl,q⟩
end
def cL (K:PySem.W.Frag) (n:Str) (st:Stmt) (f:Addr):Prop:=∃ fd,PySem.W.nsIn K mainGlobals n=some (some (.ref f))/\cI K n n st f fd
variable {K:PySem.W.Frag} {f:Addr} {oc pm ct:Value} {od an:Option Addr}
theorem VE {n:Str} {st:Stmt} {osl:Array (Option Value)} {kV doc cdv:Value} (a:PySem.W.nsIn K mainGlobals n=some (some (.ref f))) (l:K.lookup f=some ⟨oc,od,.func (PySem.W.fnOf n n (dJ st) (cA st) (aL st) .none kV doc pm an cdv ct),osl⟩) (c:PySem.W.codeIn K cdv n=true) (k:PySem.W.keepIn K (.ref f)=true):cL K n st f:=⟨_,a,Ef l c k⟩
variable {l:PySem.W.OpenLaw}
open PyProof.Rows in
theorem all_mk (Pt0:Addr) {cW fI fW cD fJ fP:Addr} {xod xan yod yan uod uan vod van:Option Addr} {xosl yosl uosl vosl:Array (Option Value)} {xoc xkV xdoc xpm xcdv xct yoc ykV ydoc ypm ycdv yct uoc ukV udoc upm ucdv uct voc vkV vdoc vpm vcdv vct:Value} {w:World} {h:Heap} {mg:Str->Option Value} {fa f0 f1 f2 f3 f4 f5 f6 f7 f8 f9 f10 f11 f12 f13 f14 f15 f16 f17 f18 f19 f20 f21 f22 f23 f24 f25 f26 f27 f28 f29 f30 f31:Addr} (X:K.In h) (G:h.Ns mainGlobals mg) (hfa:mg "law"=some (.ref fa))
  {cd14:Addr} {od14 an14:Option Addr} {sl14:Array (Option Value)} {oc14 kV14 dc14 pm14 ct14:Value}
  {od31 an31:Option Addr} {sl31:Array (Option Value)} {oc31 kV31 dc31 pm31 cd31 ct31:Value}
  {RL:Tok}
  (a0:cL K "parts_of" vG f0)
  (a1:cL K "places_of" oO f1)
  (a2:cL K "shape_at" uM f2)
  (a3:cL K "reckoned" qC f3)
  (a4:cL K "lies_on_leaf" n9 f4)
  (a5:cL K "is_pass" xW f5)
  (a6:cL K "columns_of" rF f6)
  (a7:cL K "lower" B6 f7)
  (a8:cL K "pass_leads" qX f8)
  (a9:cL K "with_passes" pK f9)
  (a10:cL K "leaf_prices" pS f10)
  (a11:cL K "sign_prices" pU f11)
  (a12:cL K "prices_of_sums" mO f12)
  (a13:cL K "known_prices" nZ f13)
  (a14:PySem.W.nsIn K mainGlobals "tree_label"=some (some (.ref f14))) (l14:K.lookup f14=some ⟨oc14,od14,.func (PySem.W.fnOf "tree_label" "tree_label" (dJ eO) (cA eO) (aL eO) .none kV14 dc14 pm14 an14 (.ref cd14) ct14),sl14⟩) (c14:PySem.W.codeIn K (.ref cd14) "tree_label"=true) (k14:PySem.W.keepIn K (.ref f14)=true)
  (q14:PySem.W.codeHdIn K cd14 Pt0=true)
  (a15:cL K "web_labels" qS f15)
  (a16:cL K "total" BO f16)
  (a17:cL K "kept_label" rL f17)
  (a18:cL K "behind_choice" m3 f18)
  (a19:cL K "state_price" pO f19)
  (a20:cL K "choices" xE f20)
  (a21:cL K "refuse_many" pN f21)
  (a22:cL K "keeping" wH f22)
  (a23:cL K "_law_feed" uX f23)
  (a24:cL K "_law_take" u6 f24)
  (a25:cL K "_law_unlike" rC f25)
  (a26:cL K "_law_inner" oZ f26)
  (a27:cL K "_law_pattern" pP f27)
  (a28:cL K "_law_table" tF f28)
  (a29:cL K "_law_leaf" vK f29)
  (a30:cL K "_law_asking" q9 f30)
  (a31:PySem.W.nsIn K mainGlobals "law"=some (some (.ref f31))) (l31:K.lookup f31=some ⟨oc31,od31,.func (PySem.W.fnOf "law" "law" (dJ qH) (cA qH) (aL qH) .none kV31 dc31 pm31 an31 cd31 ct31),sl31⟩) (c31:PySem.W.codeIn K cd31 "law"=true) (k31:PySem.W.keepIn K (.ref f31)=true)
  (e0:PySem.W.nsIn K mainGlobals "MOST_FRONTS"=some (some (.int (5000) RL)))
  {dt0:Addr} (ta0:PySem.W.nsIn K mainGlobals "SIGNS"=some (some (.ref dt0))) (tb0:KTD.tabLook KTD.flatLooks (fun b=>K.lookup b) dt0 (BI cY)=true) (tc0:KTD.hashesOf (fun b=>K.lookup b) dt0=(BI cY).map fun p=>(PySem.strKind l.prog w).hash p.1)
  (z0:PySem.W.nsIn K mainGlobals "len"=some none)
  (z1:PySem.W.nsIn K mainGlobals "max"=some none)
  (z2:PySem.W.nsIn K mainGlobals "min"=some none)
  (z3:PySem.W.nsIn K mainGlobals "range"=some none)
  (z4:PySem.W.nsIn K mainGlobals "enumerate"=some none)
  (z5:PySem.W.nsIn K mainGlobals "list"=some none)
  (z6:PySem.W.nsIn K mainGlobals "tuple"=some none)
  (z7:PySem.W.nsIn K mainGlobals "sum"=some none)
  (z8:PySem.W.nsIn K mainGlobals "zip"=some none)
  (x1:PySem.W.nsIn K mainGlobals "Wiring"=some (some (.ref cW)))
  (x2:PySem.W.plainGet K cW Str.empty=true)
  (x3:PySem.W.hasDictIn K cW=true)
  (x4:PySem.W.plainOver K cW=true)
  (x5:PySem.W.findIn K (.ref cW) "__setattr__"=some (some (.builtin "object.__setattr__")))
  (x6:PySem.W.findIn K (.ref cW) "classes"=some none)
  (x7:PySem.W.findIn K (.ref cW) "columns"=some none)
  (x8:PySem.W.findIn K (.ref cW) "leads"=some none)
  (x9:PySem.W.findIn K (.ref cW) "leaf_rules"=some none)
  (x10:PySem.W.findIn K (.ref cW) "sign_rules"=some none)
  (x11:PySem.W.findIn K (.ref cW) "wire"=some (some (.ref fW)))
  (x12:PySem.W.isFn K (.ref fW)=true)
  (x13:PySem.W.keepIn K (.ref fW)=true)
  (x14:PySem.W.makesIn K cW=true)
  (x15:PySem.W.findIn K (.ref cW) "__init__"=some (some (.ref fI)))
  (x16:PySem.W.isFn K (.ref fI)=true)
  (x17:PySem.W.keepIn K (.ref cW)=true)
  (x18:K.lookup fI=some ⟨xoc,xod,.func (PySem.W.fnOf "__init__" "Wiring.__init__" (dJ iJ) (cA iJ) (aL iJ) .none xkV xdoc xpm xan xcdv xct),xosl⟩)
  (x19:PySem.W.codeIn K xcdv "Wiring.__init__"=true)
  (x20:PySem.W.keepIn K (.ref fI)=true)
  (x21:K.lookup fW=some ⟨yoc,yod,.func (PySem.W.fnOf "wire" "Wiring.wire" (dJ iP) (cA iP) (aL iP) .none ykV ydoc ypm yan ycdv yct),yosl⟩)
  (x22:PySem.W.codeIn K ycdv "Wiring.wire"=true)
  (x23:(K.lookup dt0).isSome=true)
  (y1:PySem.W.nsIn K mainGlobals "Fronts"=some (some (.ref cD)))
  (y2:PySem.W.plainGet K cD Str.empty=true)
  (y3:PySem.W.hasDictIn K cD=true)
  (y4:PySem.W.plainOver K cD=true)
  (y5:PySem.W.findIn K (.ref cD) "__setattr__"=some (some (.builtin "object.__setattr__")))
  (y6:PySem.W.findIn K (.ref cD) "wiring"=some none)
  (y7:PySem.W.findIn K (.ref cD) "web"=some none)
  (y8:PySem.W.findIn K (.ref cD) "goals"=some none)
  (y9:PySem.W.findIn K (.ref cD) "labels"=some none)
  (y11:PySem.W.findIn K (.ref cD) "price_of"=some (some (.ref fP)))
  (y12:PySem.W.isFn K (.ref fP)=true)
  (y13:PySem.W.keepIn K (.ref fP)=true)
  (y14:PySem.W.makesIn K cD=true)
  (y15:PySem.W.findIn K (.ref cD) "__init__"=some (some (.ref fJ)))
  (y16:PySem.W.isFn K (.ref fJ)=true)
  (y17:PySem.W.keepIn K (.ref cD)=true)
  (y18:K.lookup fJ=some ⟨uoc,uod,.func (PySem.W.fnOf "__init__" "Fronts.__init__" (dJ iM) (cA iM) (aL iM) .none ukV udoc upm uan ucdv uct),uosl⟩)
  (y19:PySem.W.codeIn K ucdv "Fronts.__init__"=true)
  (y20:PySem.W.keepIn K (.ref fJ)=true)
  (y21:K.lookup fP=some ⟨voc,vod,.func (PySem.W.fnOf "price_of" "Fronts.price_of" (dJ eV) (cA eV) (aL eV) .none vkV vdoc vpm van vcdv vct),vosl⟩)
  (y22:PySem.W.codeIn K vcdv "Fronts.price_of"=true)
  : ∃ fd:FuncData,(∀ (s:Shared) (v:Value),BindsTo s fd ⟨[v],[]⟩ [("script",v)])/\∀ base:Heap,K.In base->base.Ns mainGlobals mg->h9 base mg->fY l.prog w K mg base mB 21 fa fd ["script"] (cP K (Aw Pt0)):=by
 have e:=hfa.symm.trans (PySem.W.mg_of X G a31);cases e;obtain ⟨_,vH,IA⟩:=a0;have vH:=PySem.W.mg_of X G vH;obtain ⟨_,tE,FU⟩:=a1;have tE:=PySem.W.mg_of X G tE;obtain ⟨_,uV,IQ⟩:=a2;have uV:=PySem.W.mg_of X G uV;obtain ⟨_,lB,AK⟩:=a3;have lB:=PySem.W.mg_of X G lB;obtain ⟨_,oI,Bs⟩:=a4;have oI:=PySem.W.mg_of X G oI;obtain ⟨_,wX,Kf⟩:=a5;have wX:=PySem.W.mg_of X G wX;obtain ⟨_,qR,DB⟩:=a6;have qR:=PySem.W.mg_of X G qR;obtain ⟨_,Bu,PY⟩:=a7;have Bu:=PySem.W.mg_of X G Bu;obtain ⟨_,rO,Ey⟩:=a8;have rO:=PySem.W.mg_of X G rO;obtain ⟨_,pW,CZ⟩:=a9;have pW:=PySem.W.mg_of X G pW;obtain ⟨_,pR,De⟩:=a10;have pR:=PySem.W.mg_of X G pR;obtain ⟨_,pI,C7⟩:=a11;have pI:=PySem.W.mg_of X G pI;obtain ⟨_,mJ,zX⟩:=a12;have mJ:=PySem.W.mg_of X G mJ;obtain ⟨_,nV,BW⟩:=a13;have nV:=PySem.W.mg_of X G nV;have Ei:=Ef (st:=eO) l14 c14 k14;have Fm:=PySem.W.mg_of X G a14;obtain ⟨_,rE,D9⟩:=a15;have rE:=PySem.W.mg_of X G rE;obtain ⟨_,BX,QO⟩:=a16;have BX:=PySem.W.mg_of X G BX;obtain ⟨_,qT,Fh⟩:=a17;have qT:=PySem.W.mg_of X G qT;obtain ⟨_,nO,Bd⟩:=a18;have nO:=PySem.W.mg_of X G nO;obtain ⟨_,pJ,Dj⟩:=a19;have pJ:=PySem.W.mg_of X G pJ;obtain ⟨_,xQ,Lb⟩:=a20;have xQ:=PySem.W.mg_of X G xQ;obtain ⟨_,pV,CW⟩:=a21;have pV:=PySem.W.mg_of X G pV;obtain ⟨_,wA,Jv⟩:=a22;have wA:=PySem.W.mg_of X G wA;obtain ⟨_,vM,Ha⟩:=a23;have vM:=PySem.W.mg_of X G vM;obtain ⟨_,vP,HJ⟩:=a24;have vP:=PySem.W.mg_of X G vP;obtain ⟨_,rK,DP⟩:=a25;have rK:=PySem.W.mg_of X G rK;obtain ⟨_,tB,Fq⟩:=a26;have tB:=PySem.W.mg_of X G tB;obtain ⟨_,pT,C1⟩:=a27;have pT:=PySem.W.mg_of X G pT;obtain ⟨_,sT,FC⟩:=a28;have sT:=PySem.W.mg_of X G sT;obtain ⟨_,vU,Hx⟩:=a29;have vU:=PySem.W.mg_of X G vU;obtain ⟨_,rP,E5⟩:=a30;have rP:=PySem.W.mg_of X G rP;have T4:=Ef (st:=qH) l31 c31 k31;have VI:=PySem.W.mg_of X G a31;have pG:=PySem.W.mg_of X G e0;have fF:=PySem.W.mg_of X G ta0;have fO:kR l.prog w K dt0 cY:=tab_of (by decide +kernel) tb0 tc0;have bA:=PySem.W.mg_none_of X G z0;have Ij:=PySem.W.mg_none_of X G z1;have Hk:=PySem.W.mg_none_of X G z2;have gE:=PySem.W.mg_none_of X G z3;have dB:=PySem.W.mg_none_of X G z4;have nN:=PySem.W.mg_none_of X G z5;have gU:=PySem.W.mg_none_of X G z6;have yE:=PySem.W.mg_none_of X G z7;have yK:=PySem.W.mg_none_of X G z8
 refine ⟨PySem.W.fnOf "law" "law" (dJ qH) (cA qH) (aL qH) .none kV31 dc31 pm31 an31 cd31 ct31,fun s v=>.of_eq rfl,fun base _ _ hB=>?_⟩
 have c1:∀ base,Callee l.prog w K mg base 1 "parts_of" j0 []:=fun base=>FG IA vH fO fF
 have cW_:L2.fT K cW:=⟨x2,x3,x4,x5⟩;have gW:=PySem.W.mg_of X G x1
 have FW:cI K "wire" "Wiring.wire" iP fW _:=⟨⟨_,_,_,_,_,_,_,_,_,rfl,x21,x22⟩,x13⟩
 have FI:cI K "__init__" "Wiring.__init__" iJ fI _:=⟨⟨_,_,_,_,_,_,_,_,_,rfl,x18,x19⟩,x20⟩
 have cD_:L2.fT K cD:=⟨y2,y3,y4,y5⟩;have gD:=PySem.W.mg_of X G y1
 have FP:cI K "price_of" "Fronts.price_of" eV fP _:=⟨⟨_,_,_,_,_,_,_,_,_,rfl,y21,y22⟩,y13⟩
 have FJ:cI K "__init__" "Fronts.__init__" iM fJ _:=⟨⟨_,_,_,_,_,_,_,_,_,rfl,y18,y19⟩,y20⟩
 have oS:∃ o,K.lookup dt0=some o:=Option.isSome_iff_exists.mp x23;have b0:=Bb FU tE dB (c1 base) 6;have b1:=FA IQ uV (c1 base);have b2:=C8 DB qR nN b0 b1
 have e0:∀ base,Callee l.prog w K mg base 1 "lower" qN []:=fun base=>LM PY Bu
 have e1:=Im (P:=l.prog) (w:=w) (base:=base) Kf wX;have e2:=Dh Ey rO bA gE dB e1 (e0 base);have e3:=Pe FW ⟨x11,x12,x13⟩ cW_ x7 x9 x10 fO fF (c1 base);have e4:=QD FI ⟨x14,x15,x16,x17⟩ gW cW_ x6 x7 x8 x9 x10 fO fF oS bA b2 e2 e1 e3
 have p1:∀ base,Callee l.prog w K mg base 2 "with_passes" (tL cW) []:=fun base=>BL CZ pW cW_ x8 nN (e0 base)
 have p2:∀ base,Callee l.prog w K mg base 3 "leaf_prices" (B9 cW) []:=fun base=>BH De pR cW_ x7 x9 bA (e0 base) (AA Bs oI) (p1 base)
 have p3:∀ base,Callee l.prog w K mg base 3 "prices_of_sums" (EU cW) []:=fun base=>zG zX mJ cW_ x7 x10 bA yK (e0 base) (p1 base)
 have p4:∀ base,Callee l.prog w K mg base 4 "sign_prices" (Bo cW) []:=fun base=>Bq C7 pI cW_ x10 yE yK (p3 base)
 have p5:∀ base,Callee l.prog w K mg base 4 "known_prices" (BG cW) []:=fun base=>Nt BW nV cW_ x7 bA nN (p2 base)
 have t0:=C5 Ei rfl Fm q14 hB cW_ x6 bA gU lB AK.kp (fun base fl s fl' s' _ A A'=>EX AK lB fO fF A A' (c1 base) 10) (fun base _=>p5 base) (fun base _=>p4 base);have t1:=Dg D9 rE e4 t0;have f0:=MA (P:=l.prog) (w:=w) (base:=base) QO BX yE;have f1:=PJ Fh qT cW_ x7 x6 bA gU (p1 base);have f2:=Ll Bd nO cW_ x6 f0 f1;have f3:=Lu Dj pJ cW_ x6 bA f0;have f4:=Ho (P:=l.prog) (w:=w) (base:=base) Lb xQ;have f5:=KA CW pV bA pG f4;have f6:=NU FJ ⟨y14,y15,y16,y17⟩ gD cD_ y6 y7 y8 y9 e4;have f7:=Md FP ⟨y11,y12,y13⟩ cD_ y6 y7 y8 y9 dB t0 f2 f3;have f8:=Jc Jv wA bA f5 f6 cD_ f7 f4;have l0:=Qf (P:=l.prog) (w:=w) (base:=base) HJ vP;have l1:=QR (P:=l.prog) (w:=w) (base:=base) Ha vM bA;have l2:=KN DP rK gE l0;have l3:=Nj Hx vU bA l0;have l4:=Jy E5 rP l0 l3;have l5:=Cs Fq tB bA l0 4;have l6:=Qz C1 pT bA l0 l5;have l7:=O7 FC sT bA gE gU l0 l2 l6;exact RF T4 gE Ij Hk bA gU l1 l0 l2 l4 l7 f8 t1
theorem RL {c Pt:Addr} {sl:Array (Option Value)} {kV dc:Value} (n:K.lookup Pt=none) (a:PySem.W.nsIn K mainGlobals "tree_label"=some (some (.ref f))) (lk:K.lookup f=some ⟨oc,od,.func (PySem.W.fnOf "tree_label" "tree_label" (dJ eO) (cA eO) (aL eO) .none kV dc pm an (.ref c) ct),sl⟩) (q:PySem.W.codeHdIn K c Pt=true):K.lookup Pt=none/\∃ c,PySem.W.codeHdIn K c Pt=true:=⟨n,c,q⟩
theorem KZ {H:Hp} {a:Addr} {ns:List Int} {E:XK} (hl:ns.length<=63) (hS:eR K H a (ns.map V.int)) (hT:∀ p∈[(163:Addr)],H p=some (.tbl #[])):cP K (Aw (163:Addr)) [.ref a] H (fun v _=>v=.bl true) E :=
 Ro (ts:=[((163:Addr),QT)]) hS hT (by decide +kernel) ⟨ns,rfl,hl,rfl,rfl⟩
theorem walk {q:Program} {loose:List Str} {XP:(Str->Option Value)->Heap->Prop} {YP:World->Heap->Prop} {d:DefRec} {K:Params->PySem.W.Frag} (hn:l.most=some 63) (hdf:d.params.defaults=[])
  (hY:∀ (w:World) (h:Heap),YP w h->(K w.params).In h/\∀ P∈[(163:Addr)],h.get? P=some (PySem.W.tabObj #[]))
  (hTK:∀ (w:World),∀ P∈[(163:Addr)],(K w.params).lookup P=none/\∃ c,PySem.W.codeHdIn (K w.params) c P=true)
  (F:∀ (w:World) (mg:Str->Option Value) (fa:Addr) (h:Heap),(K w.params).In h->h.Ns mainGlobals mg->mg d.name=some (.ref fa) ->
   ∃ fd:FuncData,(∀ (s:Shared) (u:Value),BindsTo s fd ⟨[u],[]⟩ [("script",u)])/\∀ base:Heap,(K w.params).In base->base.Ns mainGlobals mg->h9 base mg->fY l.prog w (K w.params) mg base mB 21 fa fd ["script"] (cP (K w.params) (Aw (163:Addr)))) :
  PySem.W.WalkO q loose XP YP l.row.toRowW d [] (fun f vs=>PySem.call f vs) :=
 Nl (n:=63) (k:=21) (x:="script") (ts:=[(163:Addr)]) (sp:=fun w=>cP (K w.params) (Aw (163:Addr))) hn (by decide) hdf ⟨rfl,by decide,by decide⟩ hY hTK F (fun w H a ns hl _ hS hT=>KZ hl hS hT)
end K53
namespace PySem.W.Fast
def tw10099681091397911473:=0
def tw1012491403324200654:=0
def tw10143211336215150293:=0
def tw10213087708010884477:=0
def tw10262284711652463591:=0
def tw1048085804239267422:=0
def tw10528958075552160321:=0
def tw10537642507964442732:=0
def tw10588813078189050258:=0
def tw1060981730857393558:=0
def tw1062595870898537940:=0
def tw10691740515391273247:=0
def tw10760117481700106213:=0
def tw10823217398205728422:=0
def tw10844668427203287694:=0
def tw10948422102666559581:=0
def tw11040040544085419323:=0
def tw11122918430736025640:=0
def tw11133743883874823382:=0
def tw11167087888905491518:=0
def tw11278818906974120606:=0
def tw1127901180310735802:=0
def tw11292385636185906135:=0
def tw11343062612644420349:=0
def tw11379452029848267566:=0
def tw11386568939074074637:=0
def tw11513368550120113796:=0
def tw11535325998246141218:=0
def tw11555310403832745797:=0
def tw1168140305146571645:=0
def tw11725286977799891108:=0
def tw11731228056286556918:=0
def tw11747644937481992438:=0
def tw11763837585928739997:=0
def tw11994001069713159210:=0
def tw12123922386352430511:=0
def tw12161995514451003473:=0
def tw12255283196016437100:=0
def tw12296573610574906268:=0
def tw12320244946000477483:=0
def tw12353136019439988526:=0
def tw12455134432638083585:=0
def tw12681921778131427510:=0
def tw12719740560889944526:=0
def tw12798343366462109638:=0
def tw12799478579643419201:=0
def tw12806039575153441953:=0
def tw12862639059913005381:=0
def tw12878128174673687670:=0
def tw12902453342895535572:=0
def tw12982001583057637333:=0
def tw12992627712527179704:=0
def tw13022670892269686978:=0
def tw13043722793503186651:=0
def tw13046384037927965509:=0
def tw13058749910281322232:=0
def tw13105587482885208704:=0
def tw13106759618029283079:=0
def tw13134399897205884317:=0
def tw13211474099365416604:=0
def tw1322113644815940210:=0
def tw13226575833251847108:=0
def tw13342405375479890704:=0
def tw13394472811548351761:=0
def tw13416169466189546836:=0
def tw13435252717751648132:=0
def tw13525894845707215605:=0
def tw1359096354783037085:=0
def tw1360788598489905027:=0
def tw13772173439402898295:=0
def tw1387910686810261736:=0
def tw13952588997657540561:=0
def tw13965957487345210594:=0
def tw14027684904827111484:=0
def tw14078206353828591929:=0
def tw14093703556794131453:=0
def tw14099213391268554325:=0
def tw1419381000197126531:=0
def tw14237005349557351417:=0
def tw14249038771360677187:=0
def tw14411204155087167813:=0
def tw14515232897188075404:=0
def tw14518398809626295336:=0
def tw146045146770047324:=0
def tw14609126629500652986:=0
def tw14681535608518567731:=0
def tw14684807847450527604:=0
def tw14696518353711933005:=0
def tw14710943319960759402:=0
def tw14769483454412449245:=0
def tw14794388823015166776:=0
def tw14893322841319519295:=0
def tw14907188996795467330:=0
def tw14936727449651806396:=0
def tw15017604208885978389:=0
def tw15108746035716648348:=0
def tw1514270329092544434:=0
def tw15320949440632346413:=0
def tw15559585526770110395:=0
def tw15562429153583363567:=0
def tw15606305534882787793:=0
def tw15636637014148397648:=0
def tw15657019212617893709:=0
def tw15756091610909128768:=0
def tw15812319330264821582:=0
def tw1582807807181254284:=0
def tw15891447634889660437:=0
def tw1592218849998007889:=0
def tw1603038038620687581:=0
def tw16031789725930454746:=0
def tw16093075928738035221:=0
def tw16153502898366561340:=0
def tw16220371385389794337:=0
def tw16250688977854348958:=0
def tw1634320631215643871:=0
def tw16350840986148208872:=0
def tw16422525503081711187:=0
def tw16566501626484347047:=0
def tw1657458912187015867:=0
def tw16730395756969211166:=0
def tw16897649627067524533:=0
def tw16958871464228899278:=0
def tw1701333404452133377:=0
def tw17031132198522668456:=0
def tw17034373690710861331:=0
def tw17121815404480906527:=0
def tw1713274878668004292:=0
def tw17163300330641723848:=0
def tw17174210764585803711:=0
def tw17291292355934631489:=0
def tw17356661541902312104:=0
def tw17389752178122674600:=0
def tw1761930619625506180:=0
def tw17681686429255905621:=0
def tw17747855283481921948:=0
def tw17768697926523606690:=0
def tw17898634352089004506:=0
def tw17903503875698783556:=0
def tw18038091089763913150:=0
def tw18118313197106190921:=0
def tw18260949400847595627:=0
def tw18349154374471439185:=0
def tw1838321094364855179:=0
def tw1927371382582304015:=0
def tw1977341279108379850:=0
def tw2015558184342327485:=0
def tw2054537938487098549:=0
def tw2084322434934381476:=0
def tw2180868801589844334:=0
def tw2195420700639268919:=0
def tw2227631872331189275:=0
def tw2230862611676961031:=0
def tw2237731292876916772:=0
def tw2283097177001426963:=0
def tw2299293976957413498:=0
def tw2308935269734427938:=0
def tw23898999432114004:=0
def tw240729179541488073:=0
def tw2496748990195818721:=0
def tw2529898552809640212:=0
def tw2566846315855727127:=0
def tw2610043536956139917:=0
def tw2700466405609478597:=0
def tw2706857380822542482:=0
def tw2865291122411097693:=0
def tw2872251247158443198:=0
def tw3005251131550173632:=0
def tw3012820491075315653:=0
def tw3051941766823668522:=0
def tw3068589079815232933:=0
def tw3101181282321741628:=0
def tw3201549073329954501:=0
def tw328900434731116790:=0
def tw3362024206067420083:=0
def tw340163215570397377:=0
def tw3403068504004805835:=0
def tw3423537446648189989:=0
def tw3451250249824773903:=0
def tw3452857945209371469:=0
def tw3560536742750292175:=0
def tw3576928470613589379:=0
def tw3691057443352087475:=0
def tw3767103771758336878:=0
def tw3794813301253467158:=0
def tw3897802201577656482:=0
def tw4020038424645608236:=0
def tw4038236225587585259:=0
def tw405129874398555608:=0
def tw4165323418392225038:=0
def tw4167985449659258981:=0
def tw4168916898710393703:=0
def tw420430934930701758:=0
def tw4243797654389472004:=0
def tw4318695172379028523:=0
def tw4342893675299509980:=0
def tw4375160934621761836:=0
def tw4404874324778709398:=0
def tw4409941771220100455:=0
def tw4442222975753396777:=0
def tw4443881483309672353:=0
def tw4478931043181724598:=0
def tw4517640660427110108:=0
def tw4579537086986585993:=0
def tw4631878725780662502:=0
def tw472774153014641544:=0
def tw4926650914970869097:=0
def tw4996043785707319535:=0
def tw5038173608590213980:=0
def tw5175119372915350328:=0
def tw5282748326222802161:=0
def tw5313782940158994535:=0
def tw533266964130420880:=0
def tw5380891529998075630:=0
def tw5409393313013905095:=0
def tw5551326956751754905:=0
def tw5650986789572843135:=0
def tw5656236305227402051:=0
def tw5688315881552157791:=0
def tw5705958709921639732:=0
def tw5727379777979296978:=0
def tw5763378900106999466:=0
def tw6059131061205575533:=0
def tw6086483282164843465:=0
def tw6120720009444997604:=0
def tw6143300543668848241:=0
def tw6169252397592498111:=0
def tw6188527571703326617:=0
def tw624910355650777612:=0
def tw629205678967800041:=0
def tw63520979504482966:=0
def tw6354513464667637904:=0
def tw6372471509105900609:=0
def tw6428835633789364136:=0
def tw6429781311294953276:=0
def tw6570625993544242591:=0
def tw663702341142692025:=0
def tw6712642460204461095:=0
def tw6772063535869931893:=0
def tw6904270974833967542:=0
def tw6927151320495346988:=0
def tw6943199468929956578:=0
def tw7313385062297326158:=0
def tw7324351622031416250:=0
def tw7333974131732171110:=0
def tw7373098629442974452:=0
def tw7431902550392349474:=0
def tw7441321952696903491:=0
def tw7622527377046441818:=0
def tw7831707062652801279:=0
def tw7919760445984116840:=0
def tw7930033710219316753:=0
def tw7932461739288377325:=0
def tw7963493892524366159:=0
def tw7971759951098613602:=0
def tw7981873308875258047:=0
def tw8039719756476698253:=0
def tw8044669165865592084:=0
def tw8053494925726907592:=0
def tw8066338260386725346:=0
def tw8071897412912394701:=0
def tw8086919687806648498:=0
def tw8107557098622186779:=0
def tw8170081934181779293:=0
def tw8218103929583220299:=0
def tw8286440524800023479:=0
def tw8456689559058686750:=0
def tw8602266040623781265:=0
def tw8623556923940545481:=0
def tw8687317624100024278:=0
def tw8805646762294683704:=0
def tw8875388593780442076:=0
def tw8913205970907295959:=0
def tw894533451208734160:=0
def tw895064161975929403:=0
def tw9045591380018505020:=0
def tw9062892906715417000:=0
def tw9095526553026735283:=0
def tw9123640651984153800:=0
def tw921133936420015764:=0
def tw9315883829366627506:=0
def tw9319993098245111466:=0
def tw9330618271368923285:=0
def tw9733224855118202759:=0
def tw9886960458140481279:=0
def tw9909381384435175911:=0
def tw9992153801965918285:=0
end PySem.W.Fast
open PySem PySem.W PyProof.Rows
set_option maxRecDepth 100000 in
set_option maxHeartbeats 0 in
theorem PySem.Challenge.cw_rowsmith_k53_whole_asked_once_kept_never_holds : PySem.Challenge.rw_rowsmith_k53_whole_asked_once_kept_never.Holds := by
 w_on;o_law;k_head;(case hw=>w_witness2)
 k_fill
 refine K53.walk (l:=PySem.Challenge.rw_rowsmith_k53_whole_asked_once_kept_never) rfl rfl (fun w h Y=>⟨PySem.W.km_in_of Y,PySem.W.km_tabs_of Y⟩) ?T ?F
 case T =>
  intro w P hP;simp only [List.mem_cons,List.not_mem_nil,or_false] at hP
  rcases hP with rfl
  ·refine' K53.RL ?tkn ?tka ?tkl ?tkq
   (case tkn=>kernel_rfl)
   (case tka=>k_is)
   (case tkl=>k_is)
   (case tkq=>kernel_rfl)
 case F =>
  intro w mg fa h KX G hmg;refine' K53.all_mk (163:Addr) KX G hmg ?a0 ?a1 ?a2 ?a3 ?a4 ?a5 ?a6 ?a7 ?a8 ?a9 ?a10 ?a11 ?a12 ?a13 ?a14 ?l14 ?c14 ?k14 ?q14 ?a15 ?a16 ?a17 ?a18 ?a19 ?a20 ?a21 ?a22 ?a23 ?a24 ?a25 ?a26 ?a27 ?a28 ?a29 ?a30 ?a31 ?l31 ?c31 ?k31 ?e0 ?ta0 ?tb0 ?tc0 ?z0 ?z1 ?z2 ?z3 ?z4 ?z5 ?z6 ?z7 ?z8 ?x1 ?x2 ?x3 ?x4 ?x5 ?x6 ?x7 ?x8 ?x9 ?x10 ?x11 ?x12 ?x13 ?x14 ?x15 ?x16 ?x17 ?x18 ?x19 ?x20 ?x21 ?x22 ?x23 ?y1 ?y2 ?y3 ?y4 ?y5 ?y6 ?y7 ?y8 ?y9 ?y11 ?y12 ?y13 ?y14 ?y15 ?y16 ?y17 ?y18 ?y19 ?y20 ?y21 ?y22
  all_goals first | (refine' K53.VE ?zza ?zzl ?zzc ?zzk;(case zza=>k_is);(case zzl=>k_is);(case zzc=>k_is);(case zzk=>k_is)) | skip
  (case a14=>k_is)
  (case l14=>k_is)
  (case c14=>k_is)
  (case k14=>k_is)
  (case q14=>kernel_rfl)
  (case a31=>k_is)
  (case l31=>k_is)
  (case c31=>k_is)
  (case k31=>k_is)
  (case e0=>k_is)
  (case ta0=>k_is)
  (case tb0=>kernel_rfl)
  (case tc0=>kernel_rfl)
  (case z0=>k_is)
  (case z1=>k_is)
  (case z2=>k_is)
  (case z3=>k_is)
  (case z4=>k_is)
  (case z5=>k_is)
  (case z6=>k_is)
  (case z7=>k_is)
  (case z8=>k_is)
  (case x1=>k_is)
  (case x2=>k_is)
  (case x3=>k_is)
  (case x4=>k_is)
  (case x5=>k_is)
  (case x6=>k_is)
  (case x7=>k_is)
  (case x8=>k_is)
  (case x9=>k_is)
  (case x10=>k_is)
  (case x11=>k_is)
  (case x12=>k_is)
  (case x13=>k_is)
  (case x14=>k_is)
  (case x15=>k_is)
  (case x16=>k_is)
  (case x17=>k_is)
  (case x18=>k_is)
  (case x19=>k_is)
  (case x20=>k_is)
  (case x21=>k_is)
  (case x22=>k_is)
  (case x23=>kernel_rfl)
  (case y1=>k_is)
  (case y2=>k_is)
  (case y3=>k_is)
  (case y4=>k_is)
  (case y5=>k_is)
  (case y6=>k_is)
  (case y7=>k_is)
  (case y8=>k_is)
  (case y9=>k_is)
  (case y11=>k_is)
  (case y12=>k_is)
  (case y13=>k_is)
  (case y14=>k_is)
  (case y15=>k_is)
  (case y16=>k_is)
  (case y17=>k_is)
  (case y18=>k_is)
  (case y19=>k_is)
  (case y20=>k_is)
  (case y21=>k_is)
  (case y22=>k_is)
#print axioms PySem.Challenge.cw_rowsmith_k53_whole_asked_once_kept_never_holds