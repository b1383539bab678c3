import PyProof.Rows.All
import Wide.All
import OpenK.AllK
import Wide.FinOn
import Lean
import PyProof.EqAt
import PyProof.EqKinds
import PyProof.TupleCall
import PySem.Challenge.RW_rowsmith_k25_how_many_covers
import KE.KRevIter
import PyProof.ListRange
import PyProof.CollectIter
import PyProof.Rows.SortWalk
import PyProof.ListMulRoad
import PyProof.AutoListH
import PyProof.Rows.SumAny
set_option Elab.async false
set_option linter.all false
set_option maxRecDepth 100000
set_option maxHeartbeats 4000000
namespace L2
open PySem PySem.Spec PyProof.Rows
noncomputable abbrev Key:=Sum Int Str
noncomputable def vH:Key->Value->Bool
 | .inl k,v=>Value.isInt k v
 | .inr x,v=>Value.isStrOf x v
noncomputable def S8 (w:World):Key->Int
 | .inl k=>hashInt k
 | .inr x=>hashStr w x
theorem fG:∀ {k:Key} {v:Value},vH k v=true->(∃ i t,k=Sum.inl i/\v=Value.int i t)\/(∃ x t,k=Sum.inr x/\v=Value.str x t)
 | .inl i,v,h=>by
  obtain ⟨t,e⟩:=Value.isInt_shape (k:=i) (v:=v) h
  exact .inl ⟨i,t,rfl,e⟩
 | .inr x,v,h=>by
  obtain ⟨t,e⟩:=Value.isStrOf_shape (x:=x) (v:=v) h
  exact .inr ⟨x,t,rfl,e⟩
theorem La (i:Int) (t:Tok):vH (.inl i) (.int i t)=true:=by simp [vH,Value.isInt]
theorem JC (x:Str) (t:Tok):vH (.inr x) (.str x t)=true:=by simp [vH,Value.isStrOf]
theorem QN (a b:Int):decide ((Sum.inl a:Key)=Sum.inl b)=(a == b):=by
 by_cases e:a=b
 ·subst e;simp
 ·have h:¬ (Sum.inl a:Key)=Sum.inl b:=fun q=>e (Sum.inl.inj q)
  rw [decide_eq_false h]
  exact (beq_eq_false_iff_ne.mpr e).symm
theorem P6 (a b:Str):decide ((Sum.inr a:Key)=Sum.inr b)=decide (a=b):=by
 by_cases e:a=b
 ·subst e;simp
 ·have h:¬ (Sum.inr a:Key)=Sum.inr b:=fun q=>e (Sum.inr.inj q)
  rw [decide_eq_false h,decide_eq_false e]
theorem Q7 (a:Int) (b:Str):decide ((Sum.inl a:Key)=Sum.inr b)=false:=decide_eq_false (fun q=>nomatch q)
theorem QI (a:Str) (b:Int):decide ((Sum.inr a:Key)=Sum.inl b)=false:=decide_eq_false (fun q=>nomatch q)
noncomputable def dS (prog:Program) (w:World):PySem.KeyKind prog w Key where
 is:=vH
 hash:=S8 w
 inj:=fun v a b ha hb=>by
  rcases fG ha with ⟨i,t,rfl,rfl⟩ | ⟨x,t,rfl,rfl⟩
  ·rcases fG hb with ⟨j,u,rfl,e⟩ | ⟨y,u,rfl,e⟩
   ·injection e with e1 _;rw [e1]
   ·exact nomatch e
  ·rcases fG hb with ⟨j,u,rfl,e⟩ | ⟨y,u,rfl,e⟩
   ·exact nomatch e
   ·injection e with e1 _;rw [e1]
 byValue:=fun k v h=>by
  rcases fG h with ⟨i,t,rfl,rfl⟩ | ⟨x,t,rfl,rfl⟩ <;> rfl
 pyHash:=fun hv h=>by
  rcases fG hv with ⟨i,t,rfl,rfl⟩ | ⟨x,t,rfl,rfl⟩
  ·exact wpAny_pyHash_int h
  ·exact wpAny_pyHash_str h
 eqBool:=fun hu hv h=>by
  rcases fG hu with ⟨i,t,rfl,rfl⟩ | ⟨x,t,rfl,rfl⟩
  ·rcases fG hv with ⟨j,u,rfl,rfl⟩ | ⟨y,u,rfl,rfl⟩
   ·rw [QN] at h;exact wpAny_eqBool_int h
   ·rw [Q7] at h;exact SeqAt.EqAt.int_str i t y u _ _ _ _ h
  ·rcases fG hv with ⟨j,u,rfl,rfl⟩ | ⟨y,u,rfl,rfl⟩
   ·rw [QI] at h;exact SeqAt.EqAt.str_int x t j u _ _ _ _ h
   ·rw [P6] at h;exact wpAny_eqBool_str h
 «strs»:=fun k x t v h=>by
  rcases fG h with ⟨i,u,rfl,e⟩ | ⟨y,u,rfl,e⟩
  ·exact nomatch e
  ·injection e with e1 _
   subst e1
   cases v <;> rfl
theorem E2 (prog:Program) (w:World) (i:Int) (t:Tok):(dS prog w).is (.inl i) (.int i t)=true:=La i t
theorem FE (prog:Program) (w:World) (x:Str) (t:Tok):(dS prog w).is (.inr x) (.str x t)=true:=JC x t
inductive V where
 | non | bl (b:Bool) | int (i:Int) | str (x:Str) | byt (b:Array UInt8) | flt (b:UInt64) | ref (a:Addr) | ty (n:String)
 deriving DecidableEq
noncomputable def RelV:V->Value->Prop
 | .non,u=>u=Value.none
 | .bl b,u=>u=Value.bool b
 | .int i,u=>∃ t,u=Value.int i t
 | .str x,u=>∃ t,u=Value.str x t
 | .byt b,u=>∃ t,u=Value.bytes b t
 | .flt b,u=>∃ t,u=Value.float b t
 | .ref a,u=>u=Value.ref a
 | .ty n,u=>u=Value.type n
noncomputable abbrev Vals:List V->List Value->Prop:=Paired RelV
theorem Vals.length {xs:List V} {us:List Value} (r:Vals xs us):xs.length=us.length:=Paired.length r
theorem Vals.get:∀ {xs:List V} {us:List Value} {i:Nat} {x:V},Vals xs us->xs[i]?=some x->∃ u,us[i]?=some u/\RelV x u
 | _,_,_,_,.nil,e=>by simp at e
 | _,_,0,_,.cons r _,e=>by simp at e;subst e;exact ⟨_,rfl,r⟩
 | _,_,i + 1,x,.cons _ t,e=>by
  obtain ⟨u,h1,h2⟩:=Vals.get (i:=i) (x:=x) t (by simpa using e)
  exact ⟨u,by simpa using h1,h2⟩
theorem Vals.set {x:V} {u:Value} (r:RelV x u):∀ {xs:List V} {us:List Value} (i:Nat),Vals xs us->Vals (xs.set i x) (us.set i u)
 | _,_,_,.nil=>.nil
 | _,_,0,.cons _ t=>.cons r t
 | _,_,i + 1,.cons q t=>.cons q (Vals.set r i t)
theorem Vals.append:∀ {xs ys:List V} {us ws:List Value},Vals xs us->Vals ys ws->Vals (xs++ys) (us++ws)
 | _,_,_,_,.nil,s=>s
 | _,_,_,_,.cons r t,s=>.cons r (Vals.append t s)
theorem Vals.take:∀ {xs:List V} {us:List Value} (n:Nat),Vals xs us->Vals (xs.take n) (us.take n)
 | _,_,0,_=>.nil
 | _,_,_ + 1,.nil=>.nil
 | _,_,n + 1,.cons r t=>.cons r (Vals.take n t)
theorem Vals.drop:∀ {xs:List V} {us:List Value} (n:Nat),Vals xs us->Vals (xs.drop n) (us.drop n)
 | _,_,0,r=>r
 | _,_,_ + 1,.nil=>.nil
 | _,_,n + 1,.cons _ t=>Vals.drop n t
noncomputable def nO:Option V->Option Value->Prop
 | some v,some u=>RelV v u
 | none,none=>True
 | _,_=>False
noncomputable def KV {κ:Type}:List (κ × V)->List (κ × Value)->Prop:=Paired fun (p:κ × V) (q:κ × Value)=>p.1=q.1/\RelV p.2 q.2
noncomputable def kV:Key->V
 | .inl i=>.int i
 | .inr x=>.str x
inductive HO where
  | lst (xs:List V)
  | tup (xs:List V)
  | dK (kvs:List (Key × V)) | dT (kvs:List (List Key × V))
  | set (S:Int->Bool) (n:Nat)
  | ins (C dx:Addr) (fs:List (Str × V))
  | own (x:Addr)
  | xd (fs:List (Str × V))
  | met (f x:Addr)
  | rng (lo hi:Int)
  | frz (o:Obj) (u:HO)
  | tbl (ps:Array Value)
  | ext (φ:Heap->Prop)
noncomputable abbrev Hp:=Addr->Option HO
noncomputable def upd (H:Hp) (a:Addr) (o:HO):Hp:=fun b=>if b=a then some o else H b
theorem c5 {H:Hp} {a:Addr} {o:HO}:upd H a o a=some o:=by unfold upd;rw [if_pos rfl]
theorem cF {H:Hp} {a b:Addr} {o:HO} (h:b≠a):upd H a o b=H b:=by unfold upd;rw [if_neg h]
theorem Sq {H:Hp} {a b:Addr} {o u:HO} (h:H a=some o) (h':H b=some u) (d:o≠u):a≠b:=by
 intro e;subst e;rw [h] at h';exact d (Option.some.inj h')
theorem dM {H:Hp} {a b:Addr} {o:HO} (h:H a=some o) (h':H b=none):a≠b:=by
 intro e;subst e;rw [h] at h';cases h'
section
variable (P:Program) (w:World)
noncomputable def c6 (H:Hp) (h:Heap) (a:Addr):HO->Prop
 | .lst xs=>xs.length<=sizeLine/\∃ (its:List Value) (n:Nat),Vals xs its/\h.get? a=some { cls:=.type "list",data:=.seq its.toArray n }
 | .tup xs=>xs.length<=sizeLine/\∃ its:List Value,Vals xs its/\IsTup h a its.toArray
 | .dK kvs=>kvs.length<=sizeLine/\(a == sysModules)=false/\∃ vs,KV kvs vs/\h.DictOf (dS P w) a vs
 | .dT kvs=>kvs.length<=sizeLine/\(a == sysModules)=false/\∃ xs:List (List Key × Addr × Value),
   Paired (fun (p:List Key × V) (q:List Key × Addr × Value)=>p.1=q.1/\H q.2.1=some (.tup (p.1.map kV))/\RelV p.2 q.2.2) kvs xs /\
   ∃ o es ep,h.get? a=some o/\o.ExactDict/\o.data=.dict es ep/\es.toList=xs.map (entryOfKey (tupleKind (dS P w)))/\(xs.map (·.1)).Nodup
 | .set S n=>h.SetOf (intKind P w) a S n
 | .ins C dx fs=>H dx=some (.own a)/\fs.length<=1000/\dx≠a/\h.get? a=some (PySem.W.instObj C dx) /\
   ∃ mA,h.Ns1 dx mA/\(∀ f,nO (fs.lookup f) (mA f))/\PySem.Within mA (fs.map (·.1))
 | .own _=>∃ o,h.get? a=some o
 | .xd fs=>∃ mA,h.Ns1 a mA/\∀ f,nO (fs.lookup f) (mA f)
 | .rng lo hi=>∃ t u v,h.get? a=some { cls:=.type "range",data:=.fields #[.int lo t,.int hi u,.int 1 v] }
 | .frz o u=>h.get? a=some o/\c6 H h a u
 | .tbl ps=>h.get? a=some { cls:=.none,data:=.fields ps }
 | .met f x=>h.get? a=some (PySem.W.methodObj (.ref f) (.ref x))
 | .ext φ=>φ h/\(∃ o,h.get? a=some o)/\∀ h1 h2:Heap,φ h1->(∀ o,h1.get? a=some o->h2.get? a=some o)->φ h2
noncomputable def iU (H:Hp) (h:Heap):Prop:=∀ a o,H a=some o->c6 P w H h a o
end
section
variable {P:Program} {w:World} {H H':Hp} {h h':Heap} {a:Addr} {o:HO}
theorem c6.lt (x:c6 P w H h a o):a < h.objs.size:=by
 cases o with
 | lst xs=>obtain ⟨_,_,_,_,e⟩:=x;exact Heap.lt_size e
 | tup xs=>obtain ⟨_,_,_,p⟩:=x;exact p.lt
 | dK kvs=>obtain ⟨_,_,_,_,o,_,_,e,_⟩:=x;exact Heap.lt_size e
 | dT kvs=>obtain ⟨_,_,_,_,o,_,_,e,_⟩:=x;exact Heap.lt_size e
 | set S n=>obtain ⟨o,_,_,_,e,_⟩:=x;exact Heap.lt_size e
 | ins C dx fs=>obtain ⟨_,_,_,e,_⟩:=x;exact Heap.lt_size e
 | own y=>obtain ⟨_,e⟩:=x;exact Heap.lt_size e
 | xd fs=>obtain ⟨_,⟨_,_,_,e,_⟩,_⟩:=x;exact Heap.lt_size e
 | rng lo hi=>obtain ⟨_,_,_,e⟩:=x;exact Heap.lt_size e
 | frz ob u=>obtain ⟨e,_⟩:=x;exact Heap.lt_size e
 | tbl ps=>exact Heap.lt_size (show h.get? a=some _ from x)
 | met f y=>exact Heap.lt_size (show h.get? a=some _ from x)
 | ext φ=>obtain ⟨_,⟨_,e⟩,_⟩:=x;exact Heap.lt_size e
theorem Paired.mapP {α β:Type} {F G:α->β->Prop}:∀ {l₁:List α} {l₂:List β},Paired F l₁ l₂->(∀ a b,F a b->G a b)->Paired G l₁ l₂
 | _,_,.nil,_=>.nil
 | _,_,.cons r t,f=>.cons (f _ _ r) (Paired.mapP t f)
theorem c6.stay (x:c6 P w H h a o) (k:∀ b u,(b=a\/H b=some (.own a))->h.get? b=some u->h'.get? b=some u)
  (ho:∀ b,H b=some (.own a)->H' b=some (.own a)) (ht:∀ b xs,H b=some (.tup xs)->H' b=some (.tup xs)):c6 P w H' h' a o:=by
 induction o with
 | lst xs=>obtain ⟨z,its,n,r,e⟩:=x;exact ⟨z,its,n,r,k _ _ (.inl rfl) e⟩
 | tup xs=>obtain ⟨z,its,r,ob,e,c⟩:=x;exact ⟨z,its,r,ob,k _ _ (.inl rfl) e,c⟩
 | dK kvs=>obtain ⟨z,y,vs,r,ob,es,ep,e,c⟩:=x;exact ⟨z,y,vs,r,ob,es,ep,k _ _ (.inl rfl) e,c⟩
 | dT kvs =>
  obtain ⟨z,y,xs,r,ob,es,ep,e,c⟩:=x
  exact ⟨z,y,xs,Paired.mapP r fun p q z=>⟨z.1,ht _ _ z.2.1,z.2.2⟩,ob,es,ep,k _ _ (.inl rfl) e,c⟩
 | set S n=>obtain ⟨ob,es,ep,t,e,c⟩:=x;exact ⟨ob,es,ep,t,k _ _ (.inl rfl) e,c⟩
 | ins C dx fs =>
  obtain ⟨d,z,ne,e,mA,⟨od,es,ep,e2,c⟩,r⟩:=x
  exact ⟨ho _ d,z,ne,k _ _ (.inl rfl) e,mA,⟨od,es,ep,k _ _ (.inr d) e2,c⟩,r⟩
 | own y=>obtain ⟨ob,e⟩:=x;exact ⟨ob,k _ _ (.inl rfl) e⟩
 | xd fs=>obtain ⟨mA,⟨od,es,ep,e,c⟩,r⟩:=x;exact ⟨mA,⟨od,es,ep,k _ _ (.inl rfl) e,c⟩,r⟩
 | rng lo hi=>obtain ⟨t,u,v,e⟩:=x;exact ⟨t,u,v,k _ _ (.inl rfl) e⟩
 | frz ob u ih=>obtain ⟨e,q⟩:=x;exact ⟨k _ _ (.inl rfl) e,ih q⟩
 | tbl ps =>
  have e:h.get? a=some { cls:=.none,data:=.fields ps }:=x
  show h'.get? a=some { cls:=.none,data:=.fields ps }
  exact k a _ (.inl rfl) e
 | met f y =>
  have e:h.get? a=some (PySem.W.methodObj (.ref f) (.ref y)):=x
  show h'.get? a=some (PySem.W.methodObj (.ref f) (.ref y))
  exact k a _ (.inl rfl) e
 | ext φ=>obtain ⟨p,⟨o,e⟩,st⟩:=x;exact ⟨st _ _ p fun o q=>k _ _ (.inl rfl) q,⟨o,k _ _ (.inl rfl) e⟩,st⟩
theorem iU.lt (x:iU P w H h) (e:H a=some o):a < h.objs.size:=(x a o e).lt
theorem iU.fresh (x:iU P w H h) (e:h.objs.size<=a):H a=none:=by
 cases q:H a with
 | none=>rfl
 | some u=>exact absurd (Nat.lt_of_lt_of_le (x.lt q) e) (Nat.lt_irrefl _)
theorem iU.kept (x:iU P w H h) (k:∀ b u,h.get? b=some u->h'.get? b=some u):iU P w H h':=fun a o e =>
 (x a o e).stay (fun b u _ q=>k b u q) (fun _ q=>q) fun _ _ q=>q
theorem iU.laid (x:iU P w H h) (k:∀ b u,h.get? b=some u->h'.get? b=some u) (hp:h.objs.size<=a) (new:c6 P w (upd H a o) h' a o):iU P w (upd H a o) h':=fun b u e=>by
 have hn:=x.fresh hp
 by_cases hb:b=a
 ·subst hb;rw [c5] at e;cases e;exact new
 ·rw [cF hb] at e
  exact (x b u e).stay (fun c v _ q=>k c v q) (fun c q=>by rw [cF (dM q hn)];exact q) fun c xs q=>by rw [cF (dM q hn)];exact q
end
noncomputable def Rd (H:Hp) (a:Addr) (u:HO):Prop:=H a=some u\/∃ o,H a=some (.frz o u)
theorem Rd.ok {P:Program} {w:World} {H:Hp} {h:Heap} {a:Addr} {u:HO} (r:Rd H a u) (x:iU P w H h):c6 P w H h a u:=by
 rcases r with r | ⟨o,r⟩
 ·exact x a u r
 ·obtain ⟨_,q⟩:=x a _ r
  exact q
noncomputable def Ke:Option HO->Prop
 | some (.lst _)=>True
 | some (.dK _)=>True
 | some (.dT _)=>True
 | some (.set _ _)=>True
 | some (.ins _ _ _)=>True
 | some (.ext _)=>True
 | _=>False
section
variable {P:Program} {w:World} {H:Hp} {h h':Heap} {x e:Addr} {o':HO}
theorem iU.write (ok:iU P w H h) (mu:Ke (H x)) (he:e=x\/H e=some (.own x)) (k:∀ b u,b≠e->h.get? b=some u->h'.get? b=some u) (heo:∃ u,h'.get? e=some u)
  (new:c6 P w (upd H x o') h' x o'):iU P w (upd H x o') h':=fun b u q=>by
 have nown:∀ c y,H c=some (.own y)->c≠x:=fun c y r z=>by subst z;rw [r] at mu;exact mu
 have ntup:∀ c xs,H c=some (.tup xs)->c≠x:=fun c xs r z=>by subst z;rw [r] at mu;exact mu
 by_cases hb:b=x
 ·subst hb;rw [c5] at q;cases q;exact new
 ·rw [cF hb] at q
  by_cases hbe:b=e
  ·have q':H b=some (.own x):=by
    rcases he with z | z
    ·exact absurd (hbe.trans z) hb
    ·rw [hbe];exact z
   rw [q] at q';cases q'
   obtain ⟨v,hv⟩:=heo
   exact ⟨v,by rw [hbe];exact hv⟩
  ·refine (ok b u q).stay (fun c v hc r=>k c v ?_ r) (fun c r=>by rw [cF (nown c b r)];exact r) fun c xs r=>by rw [cF (ntup c xs r)];exact r
   rcases hc with rfl | hc
   ·exact hbe
   ·rintro rfl
    rcases he with z | z
    ·exact nown c b hc z
    ·rw [hc] at z;cases z;exact hb rfl
end
structure Un (fs ex:List Addr) (H H':Hp) (h h':Heap):Prop where
 keep:∀ b o,h.get? b=some o->H b=none->b ∉ fs->b ∉ ex->h'.get? b=some o
 slot:∀ b o,h.get? b=some o->H b=none->b∈fs->b ∉ ex->∃ sl,h'.get? b=some { o with slots:=sl }
 free:∀ b o,h.get? b=some o->H b=none->b ∉ ex->H' b=none
 there:∀ b o,h.get? b=some o->b ∉ ex->∃ o',h'.get? b=some o'
 tups:∀ b xs,H b=some (.tup xs)->H' b=some (.tup xs)
 frzs:∀ b o u,H b=some (.frz o u)->H' b=some (.frz o u)
 tbls:∀ b ps,H b=some (.tbl ps)->∃ more,H' b=some (.tbl (ps++more))
section
variable {fs fs' ex ex':List Addr} {H H1 H2:Hp} {h h1 h2 h':Heap} {a x e:Addr} {o:HO}
theorem Un.any (u:Un fs ex H H1 h h1) {b:Addr} {ob:Obj} (q:h.get? b=some ob) (n:H b=none) (hx:b ∉ ex):∃ sl,h1.get? b=some { ob with slots:=sl }:=by
 by_cases hb:b∈fs
 ·exact u.slot b ob q n hb hx
 ·exact ⟨ob.slots,u.keep b ob q n hb hx⟩
theorem Un.kept (k:∀ b u,h.get? b=some u->h'.get? b=some u):Un fs ex H H h h' :=
 ⟨fun b ob q _ _ _=>k b ob q,fun b ob q _ _ _=>⟨ob.slots,k b ob q⟩,fun _ _ _ n _=>n,fun b ob q _=>⟨ob,k b ob q⟩,fun _ _ q=>q,fun _ _ _ q=>q,fun _ ps q=>⟨#[],by rw [q];simp⟩⟩
theorem Un.refl:Un fs ex H H h h:=Un.kept fun _ _ q=>q
theorem Un.laid (k:∀ b u,h.get? b=some u->h'.get? b=some u) (hp:h.objs.size<=a) (hn:H a=none):Un fs ex H (upd H a o) h h' where
 keep:=fun b u q _ _ _=>k b u q
 slot:=fun b u q _ _ _=>⟨u.slots,k b u q⟩
 free:=fun b u q n _=>by rw [cF (Nat.ne_of_lt (Nat.lt_of_lt_of_le (Heap.lt_size q) hp))];exact n
 there:=fun b u q _=>⟨u,k b u q⟩
 tups:=fun b xs q=>by rw [cF (dM q hn)];exact q
 frzs:=fun b u xs q=>by rw [cF (dM q hn)];exact q
 tbls:=fun b ps q=>⟨#[],by rw [cF (dM q hn),q];simp⟩
theorem Un.write (mu:Ke (H x)) (he:e=x\/H e=some (.own x)) (k:∀ b u,b≠e->h.get? b=some u->h'.get? b=some u) (heo:∃ u,h'.get? e=some u):Un fs ex H (upd H x o) h h':=by
 have hx:∀ b,H b=none->b≠x:=fun b n z=>by subst z;rw [n] at mu;exact mu
 have hb:∀ b,H b=none->b≠e:=fun b n z=>by
  subst z
  rcases he with r | r
  ·exact hx b n r
  ·rw [n] at r;cases r
 have hm:∀ b u,H b=some u->¬ Ke (some u)->b≠x:=fun b u q nm z=>by subst z;rw [q] at mu;exact nm mu
 refine ⟨fun b u q n _ _=>k b u (hb b n) q,fun b u q n _ _=>⟨u.slots,k b u (hb b n) q⟩,fun b u q n _=>by rw [cF (hx b n)];exact n,fun b u q _=>?_,
  fun b xs q=>by rw [cF (hm b _ q fun z=>z)];exact q,fun b u xs q=>by rw [cF (hm b _ q fun z=>z)];exact q,fun b ps q=>⟨#[],by rw [cF (hm b _ q fun z=>z),q];simp⟩⟩
 by_cases hbe:b=e
 ·subst hbe;exact heo
 ·exact ⟨u,k b u hbe q⟩
end
noncomputable def Nh (h:Heap) (H:Hp):List Addr:=(List.range h.objs.size).filter fun a=>(H a).isSome
noncomputable def u7 (h:Heap) (H:Hp):Heap:=PySem.W.hideAll h (Nh h H)
theorem Ki (h:Heap) (H:Hp):(u7 h H).objs.size=h.objs.size:=PySem.W.hideAll_size _ _
theorem LQ {h:Heap} {H:Hp} {b:Addr} {o:Obj} (e:h.get? b=some o) (n:H b=none):(u7 h H).get? b=some o :=
 PySem.W.hideAll_get _ e fun hm=>by
  have q:(H b).isSome=true:=(List.mem_filter.mp hm).2
  rw [n] at q;simp at q
theorem PL {h:Heap} {H:Hp} {b:Addr} {o:Obj} (e:(u7 h H).get? b=some o):h.get? b=some o/\H b=none:=by
 have e':h.get? b=some o:=PySem.W.of_hideAll (Nh h H) e
 refine ⟨e',?_⟩
 cases q:H b with
 | none=>rfl
 | some x =>
  have hm:b∈Nh h H:=List.mem_filter.mpr ⟨List.mem_range.mpr (Heap.lt_size e'),by simp [q]⟩
  have z:(u7 h H).get? b=none:=PySem.W.hideAll_none (Nh h H) hm
  rw [z] at e;cases e
structure Mod (K:PySem.W.Frag) (mg:Str->Option Value) (base:Heap):Prop where
 kin:K.In base
 glob:base.Ns mainGlobals mg
 blt:∃ mb,base.Ns builtinsNs mb/\∀ x:Str,x≠"__name__"->mb x=bootBuiltins x
 nolimit:base.NoLimit
structure Cx where
 prog:Program
 w:World
 K:PySem.W.Frag
 mg:Str->Option Value
 base:Heap
 A:Around
 N:List Str
 s₀:Shared
 H₀:Hp
 env:Env
 outer:List Env
 stack:List Env
 ex:List Addr
 fn:Str->Bool
 calm:Bool
 pn:List (Addr × Obj)
 xe:Value->Shared->Prop
noncomputable def wC (l:List Env):List Addr:=l.filterMap (·.frame)
noncomputable abbrev Cx.fs (X:Cx):List Addr:=wC X.outer
noncomputable def Ru (sc:Scope) (x:Str):Prop:=sc.names.lookup x=some .local\/sc.names.lookup x=some .cell\/sc.names.lookup x=some .free
noncomputable def Loc (sc:Scope) (x:Str):Prop:=sc.names.lookup x=some .local\/sc.names.lookup x=some .cell
noncomputable def Look (env:Env) (h:Heap) (m:Str->Option Value) (x:Str) (u:Value):Prop :=
 (env.kindOf x=some .local/\m x=some u)\/((env.kindOf x=some .cell\/env.kindOf x=some .free)/\∃ c,env.cells.lookup x=some c/\h.IsCell c (some u))
structure Cx.Ok (X:Cx):Prop where
 mod:Mod X.K X.mg X.base
 kind:X.env.scope.kind=.function
 glob:X.env.globals=mainGlobals
 blt:X.env.builtins=builtinsNs
 above:X.s₀.heap.objs.size<=X.env.locals
 inj:∀ x y c,X.env.cells.lookup x=some c->X.env.cells.lookup y=some c->x=y
 has:∀ x,(X.env.kindOf x=some .cell\/X.env.kindOf x=some .free)->∃ c,X.env.cells.lookup x=some c
 cab:∀ x c,X.fn x=true->X.env.cells.lookup x=some c->X.s₀.heap.objs.size<=c
 hd:X.calm=true->X.A.handled=none
 frames:X.A.frames=some X.stack
 stk:X.stack=X.outer\/(X.stack=X.env :: X.outer/\X.env.frame=some X.env.locals)
 exf:∀ b∈X.ex,b≠X.env.locals/\∀ x c,X.env.cells.lookup x=some c->c≠b
 bs:∀ b o,X.base.get? b=some o->X.s₀.heap.get? b=some o/\X.H₀ b=none
 bsz:X.base.objs.size<=X.s₀.heap.objs.size
 noex:∀ b o,X.base.get? b=some o->b ∉ X.ex
 exfs:∀ b∈X.ex,b ∉ X.fs
 funs:X.s₀.heap.FunFrames X.base X.outer
 frf:∀ b∈X.fs,X.H₀ b=none
structure Inv (X:Cx) (pins:List (Addr × Obj)) (σ:List (Option V)) (H:Hp) (s:Shared):Prop where
 ok:X.Ok
 os:s.os=X.s₀.os
 bare:AllBare s.gens
 base:Un X.fs X.ex X.H₀ H X.s₀.heap s.heap
 loc:∃ m,s.heap.Ns X.env.locals m/\∀ (i:Nat) (x:Str) (v:V),X.N[i]?=some x->σ[i]?=some (some v)->Ru X.env.scope x->∃ u,RelV v u/\Look X.env s.heap m x u
 cell:∀ x c,X.env.cells.lookup x=some c->∃ v,s.heap.IsCell c v
 free:H X.env.locals=none
 freeC:∀ x c,X.env.cells.lookup x=some c->H c=none
 pin:∀ p∈X.pn++pins,s.heap.get? p.1=some p.2/\H p.1=none/\p.1≠X.env.locals/\p.1 ∉ X.fs/\∀ v,p.2.data≠.cell v
 hok:iU X.prog X.w H s.heap
 len:σ.length=X.N.length
section
variable {X:Cx} {pins:List (Addr × Obj)} {σ:List (Option V)} {H H':Hp} {s:Shared} {h':Heap}
theorem Cx.Ok.nofr (ok:X.Ok) {b:Addr} {o:Obj} (e:X.base.get? b=some o):b ∉ X.fs:=fun hb=>by
 have:=(ok.funs.mem hb).1
 rw [e] at this;cases this
theorem Inv.bs (I:Inv X pins σ H s):∀ b o,X.base.get? b=some o->s.heap.get? b=some o/\H b=none:=fun b o e =>
 ⟨I.base.keep b o (I.ok.bs b o e).1 (I.ok.bs b o e).2 (I.ok.nofr e) (I.ok.noex b o e),I.base.free b o (I.ok.bs b o e).1 (I.ok.bs b o e).2 (I.ok.noex b o e)⟩
theorem Inv.bk (I:Inv X pins σ H s):∀ b o,X.base.get? b=some o->s.heap.get? b=some o:=fun b o e=>(I.bs b o e).1
theorem Inv.mod (I:Inv X pins σ H s):Mod X.K X.mg X.base:=I.ok.mod
theorem Inv.kIn (I:Inv X pins σ H s):X.K.In s.heap:=I.ok.mod.kin.keeps I.bk
theorem Inv.fr (I:Inv X pins σ H s):∃ m,Fr X.base X.env.locals s.heap m :=
 let ⟨m,hn,_⟩:=I.loc
 ⟨m,hn,I.bk,Nat.le_trans I.ok.bsz I.ok.above⟩
theorem Inv.lt (I:Inv X pins σ H s):X.env.locals < s.heap.objs.size:=let ⟨_,hn,_⟩:=I.loc;hn.lt
theorem Inv.sz (I:Inv X pins σ H s):X.s₀.heap.objs.size<=s.heap.objs.size:=Nat.le_trans I.ok.above (Nat.le_of_lt I.lt)
theorem Inv.nofs (I:Inv X pins σ H s) {a:Addr} (h:s.heap.objs.size<=a):a ∉ X.fs:=fun hb=>by
 obtain ⟨_,o,ho,_⟩:=I.ok.funs.mem hb
 exact absurd (Nat.lt_of_lt_of_le (Heap.lt_size ho) (Nat.le_trans I.sz h)) (Nat.lt_irrefl _)
theorem Inv.cne (I:Inv X pins σ H s):∀ x c,X.env.cells.lookup x=some c->c≠X.env.locals:=fun x c e z=>by
 obtain ⟨v,o,ho,hd⟩:=I.cell x c e
 obtain ⟨m,⟨o',es,ep,ho',hd',_⟩,_⟩:=I.loc
 rw [z,ho'] at ho;cases ho;rw [hd'] at hd;cases hd
theorem Inv.funs (I:Inv X pins σ H s):s.heap.FunFrames X.base X.outer:=by
 have all:∀ (l:List Env),(∀ b∈wC l,b∈X.fs)->X.s₀.heap.FunFrames X.base l->s.heap.FunFrames X.base l:=by
  intro l
  induction l with
  | nil=>intro _ _;trivial
  | cons env r ih =>
   intro hs hl
   obtain ⟨hk,⟨L,o,hf,hn,ho,hd⟩,hr⟩:=hl
   have hL:L∈X.fs:=hs L (by unfold wC;rw [List.filterMap_cons,hf];exact List.mem_cons_self)
   obtain ⟨sl,e⟩:=I.base.slot L o ho (I.ok.frf L hL) hL fun z=>I.ok.exfs L z hL
   exact ⟨hk,⟨L,_,hf,hn,e,hd⟩,ih (fun b hb=>hs b (by unfold wC;rw [List.filterMap_cons,hf];exact List.mem_cons_of_mem _ hb)) hr⟩
 exact all X.outer (fun _ hb=>hb) I.ok.funs
theorem Inv.stack (I:Inv X pins σ H s):s.heap.FunFrames X.base X.stack:=by
 rcases I.ok.stk with e | ⟨e,hf⟩
 ·rw [e];exact I.funs
 ·rw [e]
  obtain ⟨m,hn,_⟩:=I.loc
  refine .cons (by rw [I.ok.kind];decide) hf hn ?_ I.funs
  exact Heap.get?_none_of_le (Nat.le_trans I.ok.bsz I.ok.above)
theorem Inv.stkSub (I:Inv X pins σ H s):∀ b∈wC X.stack,b∈X.env.locals :: X.fs:=fun b hb=>by
 rcases I.ok.stk with e | ⟨e,hf⟩
 ·rw [e] at hb;exact List.mem_cons_of_mem _ hb
 ·rw [e] at hb
  unfold wC at hb
  rw [List.filterMap_cons,hf] at hb
  exact hb
theorem Inv.stkFree (I:Inv X pins σ H s):∀ b∈wC X.stack,H b=none:=fun b hb=>by
 rcases List.mem_cons.mp (I.stkSub b hb) with e | hb
 ·rw [e];exact I.free
 ·obtain ⟨_,o,ho,_⟩:=I.ok.funs.mem hb
  exact I.base.free b o ho (I.ok.frf b hb) fun z=>I.ok.exfs b z hb
theorem Inv.step {g':Array GenState} {t':Nat} {d':Drawn} {ch:List Addr} (I:Inv X pins σ H s)
  (hch:∀ b∈ch,(b∈X.ex\/X.s₀.heap.objs.size<=b)/\b≠X.env.locals/\(∀ x c,X.env.cells.lookup x=some c->c≠b)/\∀ p∈X.pn++pins,p.1≠b)
  (keep:∀ b o,b≠X.env.locals->b ∉ X.fs->b ∉ ch->s.heap.get? b=some o->H b=none->h'.get? b=some o)
  (slot:∀ b o,b≠X.env.locals->b∈X.fs->b ∉ ch->s.heap.get? b=some o->H b=none->∃ sl,h'.get? b=some { o with slots:=sl }) (free:∀ b o,b ∉ ch->s.heap.get? b=some o->H b=none->H' b=none)
  (there:∀ b o,b ∉ ch->s.heap.get? b=some o->∃ o',h'.get? b=some o')
  (tups:∀ b xs,H b=some (.tup xs)->H' b=some (.tup xs)) (frzs:∀ b o u,H b=some (.frz o u)->H' b=some (.frz o u)) (tbls:∀ b ps,H b=some (.tbl ps)->∃ more,H' b=some (.tbl (ps++more)))
  (ns:∀ m,s.heap.Ns X.env.locals m->h'.Ns X.env.locals m) (hok:iU X.prog X.w H' h') (hg:AllBare g') :
  Inv X pins σ H' { s with heap:=h',gens:=g',drawn:=d',toks:=t' }:=by
 have neL:∀ b o,X.s₀.heap.get? b=some o->b≠X.env.locals:=fun b o e=>Nat.ne_of_lt (Nat.lt_of_lt_of_le (Heap.lt_size e) I.ok.above)
 have neC:∀ b o,X.s₀.heap.get? b=some o->b ∉ X.ex->b ∉ ch:=fun b o e hx hb=>by
  rcases (hch b hb).1 with z | z
  ·exact hx z
  ·exact absurd (Nat.lt_of_lt_of_le (Heap.lt_size e) z) (Nat.lt_irrefl _)
 have cellK:∀ x c,X.env.cells.lookup x=some c->∀ v,s.heap.IsCell c v->h'.IsCell c v:=fun x c e v ⟨o,ho,hd⟩=>by
  have nch:c ∉ ch:=fun z=>(hch c z).2.2.1 x c e rfl
  by_cases hc:c∈X.fs
  ·obtain ⟨sl,q⟩:=slot c o (I.cne x c e) hc nch ho (I.freeC x c e)
   exact ⟨_,q,hd⟩
  ·exact ⟨o,keep c o (I.cne x c e) hc nch ho (I.freeC x c e),hd⟩
 refine ⟨I.ok,I.os,hg,⟨fun b o e n hb hx=>?_,fun b o e n hb hx=>?_,fun b o e n hx=>?_,fun b o e hx=>?_,fun b xs e=>tups b xs (I.base.tups b xs e),fun b o xs e=>frzs b o xs (I.base.frzs b o xs e),fun b ps e=>?_⟩,?_,fun x c e=>?_,?_,fun x c e=>?_,fun p hp=>?_,hok,I.len⟩
 ·exact keep b o (neL b o e) hb (neC b o e hx) (I.base.keep b o e n hb hx) (I.base.free b o e n hx)
 ·obtain ⟨sl,e1⟩:=I.base.slot b o e n hb hx
  obtain ⟨sl',e2⟩:=slot b _ (neL b o e) hb (neC b o e hx) e1 (I.base.free b o e n hx)
  exact ⟨sl',e2⟩
 ·obtain ⟨o',e1⟩:=I.base.there b o e hx
  exact free b o' (neC b o e hx) e1 (I.base.free b o e n hx)
 ·obtain ⟨o',e1⟩:=I.base.there b o e hx
  exact there b o' (neC b o e hx) e1
 ·obtain ⟨m1,e1⟩:=I.base.tbls b ps e
  obtain ⟨m2,e2⟩:=tbls b _ e1
  exact ⟨m1++m2,by rw [e2,Array.append_assoc]⟩
 ·obtain ⟨m,hn,hl⟩:=I.loc
  refine ⟨m,ns m hn,fun i x v e1 e2 e3=>?_⟩
  obtain ⟨u,r,l⟩:=hl i x v e1 e2 e3
  refine ⟨u,r,?_⟩
  rcases l with l | ⟨k,c,e,z⟩
  ·exact .inl l
  ·exact .inr ⟨k,c,e,cellK x c e _ z⟩
 ·obtain ⟨v,z⟩:=I.cell x c e
  exact ⟨v,cellK x c e v z⟩
 ·obtain ⟨m,⟨o,_,_,ho,_⟩,_⟩:=I.loc
  exact free _ o (fun z=>(hch _ z).2.1 rfl) ho I.free
 ·obtain ⟨v,o,ho,hd⟩:=I.cell x c e
  exact free c o (fun z=>(hch c z).2.2.1 x c e rfl) ho (I.freeC x c e)
 ·obtain ⟨e,n,ne,nf,d⟩:=I.pin p hp
  have nch:p.1 ∉ ch:=fun z=>(hch p.1 z).2.2.2 p hp rfl
  exact ⟨keep p.1 p.2 ne nf nch e n,free p.1 p.2 nch e n,ne,nf,d⟩
theorem Inv.un {t':Nat} (I:Inv X pins σ H s) (u:Un X.fs [] H H' s.heap h') (hok:iU X.prog X.w H' h'):Inv X pins σ H' { s with heap:=h',toks:=t' }:=by
 obtain ⟨m,⟨o,es,ep,ho,r⟩,_⟩:=id I.loc
 obtain ⟨sl,hL⟩:=u.any ho I.free (by simp)
 exact I.step (g':=s.gens) (d':=s.drawn) (ch:=[]) (fun _ z=>nomatch z) (fun b o _ hb _ e n=>u.keep b o e n hb (by simp)) (fun b o _ hb _ e n=>u.slot b o e n hb (by simp)) (fun b o _ e n=>u.free b o e n (by simp)) (fun b o _ e=>u.there b o e (by simp)) u.tups u.frzs u.tbls (fun m' hm=>by
  obtain ⟨o',es',ep',ho',r'⟩:=hm
  rw [ho] at ho';cases ho'
  exact ⟨_,es',ep',hL,r'⟩) hok I.bare
theorem Inv.call {g':Array GenState} {t':Nat} {d':Drawn} {ch:List Addr} (I:Inv X pins σ H s) (u:Un (wC X.stack) ch H H' s.heap h') (hok:iU X.prog X.w H' h') (hg:AllBare g')
  (hch:∀ b∈ch,(b∈X.ex\/X.s₀.heap.objs.size<=b)/\b≠X.env.locals/\(∀ x c,X.env.cells.lookup x=some c->c≠b)/\∀ p∈X.pn++pins,p.1≠b) :
  Inv X pins σ H' { s with heap:=h',gens:=g',drawn:=d',toks:=t' }:=by
 obtain ⟨m,⟨o,es,ep,ho,r⟩,_⟩:=id I.loc
 obtain ⟨sl,hL⟩:=u.any ho I.free fun z=>(hch _ z).2.1 rfl
 exact I.step (ch:=ch) hch (fun b o hL hb hc e n=>u.keep b o e n (fun z=>(List.mem_cons.mp (I.stkSub b z)).elim hL hb) hc) (fun b o _ _ hc e n=>u.any e n hc) (fun b o hc e n=>u.free b o e n hc) (fun b o hc e=>u.there b o e hc) u.tups u.frzs u.tbls (fun m' hm=>by
  obtain ⟨o',es',ep',ho',r'⟩:=hm
  rw [ho] at ho';cases ho'
  exact ⟨_,es',ep',hL,r'⟩) hok hg
theorem Inv.turned {t':Nat} {it:Addr} (I:Inv X pins σ H s) (k:∀ b o,b≠it->s.heap.get? b=some o->h'.get? b=some o) (hn:H it=none) (hL:it≠X.env.locals)
  (h1:it∈X.ex\/X.s₀.heap.objs.size<=it) (h2:∀ x c,X.env.cells.lookup x=some c->c≠it) (h3:∀ p∈X.pn++pins,p.1≠it):Inv X pins σ H { s with heap:=h',toks:=t' }:=by
 have nit:∀ b u,H b=some u->b≠it:=fun b u e z=>by rw [z,hn] at e;cases e
 refine I.step (g':=s.gens) (d':=s.drawn) (ch:=[it]) (fun b hb=>?_) (fun b o _ _ hc e _=>k b o (fun z=>hc (by simp [z])) e) (fun b o _ _ hc e _=>⟨o.slots,k b o (fun z=>hc (by simp [z])) e⟩) (fun _ _ _ _ n=>n)
  (fun b o hc e=>⟨o,k b o (fun z=>hc (by simp [z])) e⟩) (fun _ _ e=>e) (fun _ _ _ e=>e) (fun b ps e=>⟨#[],by rw [e];simp⟩) (fun m hm=>?_) (fun b u e=>?_) I.bare
 ·have e:b=it:=by simpa using hb
  subst e
  exact ⟨h1,hL,h2,h3⟩
 ·obtain ⟨o,es,ep,ho,r⟩:=hm
  exact ⟨o,es,ep,k _ o (Ne.symm hL) ho,r⟩
 ·refine (I.hok b u e).stay (fun c v hc q=>k c v ?_ q) (fun _ q=>q) fun _ _ q=>q
  rcases hc with z | z
  ·rw [z];exact nit b u e
  ·exact nit c _ z
theorem Inv.tok (I:Inv X pins σ H s) (t:Nat):Inv X pins σ H { s with toks:=t }:=I.un (h':=s.heap) (t':=t) Un.refl I.hok
theorem Inv.kept {t':Nat} (I:Inv X pins σ H s) (k:∀ b u,s.heap.get? b=some u->h'.get? b=some u):Inv X pins σ H { s with heap:=h',toks:=t' }:=I.un (Un.kept k) (I.hok.kept k)
theorem Inv.laid {a:Addr} {o:HO} {t':Nat} (I:Inv X pins σ H s) (k:∀ b u,s.heap.get? b=some u->h'.get? b=some u) (hp:s.heap.objs.size<=a) (new:c6 X.prog X.w (upd H a o) h' a o) :
  Inv X pins σ (upd H a o) { s with heap:=h',toks:=t' }:=I.un (Un.laid k hp (I.hok.fresh hp)) (I.hok.laid k hp new)
theorem Inv.write {x e:Addr} {o:HO} {t':Nat} (I:Inv X pins σ H s) (mu:Ke (H x)) (he:e=x\/H e=some (.own x)) (k:∀ b u,b≠e->s.heap.get? b=some u->h'.get? b=some u) (heo:∃ u,h'.get? e=some u)
  (new:c6 X.prog X.w (upd H x o) h' x o):Inv X pins σ (upd H x o) { s with heap:=h',toks:=t' }:=I.un (Un.write mu he k heo) (I.hok.write mu he k heo new)
theorem Inv.weak {σ':List (Option V)} (I:Inv X pins σ H s) (hl:σ'.length=σ.length) (w:∀ (i:Nat) v,σ'[i]?=some (some v)->σ[i]?=some (some v)):Inv X pins σ' H s :=
 ⟨I.ok,I.os,I.bare,I.base,let ⟨m,hn,hl'⟩:=I.loc;⟨m,hn,fun i x v e1 e2 e3=>hl' i x v e1 (w i v e2) e3⟩,I.cell,I.free,I.freeC,I.pin,I.hok,hl.trans I.len⟩
theorem Inv.pins_of {pins':List (Addr × Obj)} (I:Inv X pins σ H s) (h:∀ p∈pins',s.heap.get? p.1=some p.2/\H p.1=none/\p.1≠X.env.locals/\p.1 ∉ X.fs/\∀ v,p.2.data≠.cell v):Inv X pins' σ H s :=
 ⟨I.ok,I.os,I.bare,I.base,I.loc,I.cell,I.free,I.freeC,fun p hp=>(List.mem_append.mp hp).elim (fun z=>I.pin p (List.mem_append_left _ z)) (h p),I.hok,I.len⟩
theorem DG {N:List Str} (hN:N.Nodup) {i j:Nat} {x:Str} (a:N[i]?=some x) (b:N[j]?=some x):i=j:=by
 obtain ⟨h1,e1⟩:=List.getElem?_eq_some_iff.mp a
 obtain ⟨h2,e2⟩:=List.getElem?_eq_some_iff.mp b
 exact (List.getElem_inj hN).mp (e1.trans e2.symm)
theorem Cr {M:Model} {A:Around} {E:Value->Shared->Prop} {i:Nat} {x:Str} {v:V} {u:Value} {Q:Unit->Shared->Prop} (I:Inv X pins σ H s) (hN:X.N.Nodup) (hi:X.N[i]?=some x) (hx:Loc X.env.scope x) (r:RelV v u)
  (h:∀ s',Inv X pins (σ.set i (some v)) H s'->(∃ a,Heap.SameBut a s.heap s'.heap/\(a=X.env.locals\/X.env.cells.lookup x=some a))->Q () s') (hf:X.fn x=true\/X.env.scope.names.lookup x=some .local:=by first | exact .inl rfl | exact .inr rfl | assumption):wpAny M A (storeName X.env x u) Q E s:=by
 obtain ⟨m,hn,hl⟩:=id I.loc
 have hcls:(X.env.scope.kind == .class || (X.env.scope.kind == .module && X.env.locals != X.env.globals))=false:=by rw [I.ok.kind];rfl
 have hiσ:i < σ.length:=by rw [I.len];exact (List.getElem?_eq_some_iff.mp hi).1
 have cne:=I.cne
 have tracked:∀ {a:Addr} {h':Heap},(∃ o,s.heap.get? a=some o/\H a=none)->Heap.SameBut a s.heap h'->iU X.prog X.w H h':=fun {a h'} ha hs b ob e=>by
  obtain ⟨_,_,hfree⟩:=ha
  refine (I.hok b ob e).stay (fun c w' hc q=>(hs.2 c ?_).trans q) (fun _ q=>q) fun _ _ q=>q
  rintro rfl
  rcases hc with rfl | hc
  ·rw [hfree] at e;cases e
  ·rw [hfree] at hc;cases hc
 rcases hx with hk | hk
 ·refine wpAny_storeName_local hk hn (fun h' hn' hs=>?_) hcls
  obtain ⟨oL,_,_,hoL,_⟩:=id hn
  refine h _ ⟨I.ok,I.os,I.bare,⟨fun b o e n hb hx=>?_,fun b o e n hb hx=>?_,I.base.free,fun b o e hx=>?_,I.base.tups,I.base.frzs,I.base.tbls⟩,⟨_,hn',fun j y v' e1 e2 e3=>?_⟩,fun y c e=>?_,I.free,I.freeC,fun p hp=>?_,tracked ⟨oL,hoL,I.free⟩ hs,by simpa using I.len⟩ ⟨_,hs,.inl rfl⟩
  ·exact (hs.2 b (Nat.ne_of_lt (Nat.lt_of_lt_of_le (Heap.lt_size e) I.ok.above))).trans (I.base.keep b o e n hb hx)
  ·obtain ⟨sl,e1⟩:=I.base.slot b o e n hb hx
   exact ⟨sl,(hs.2 b (Nat.ne_of_lt (Nat.lt_of_lt_of_le (Heap.lt_size e) I.ok.above))).trans e1⟩
  ·obtain ⟨o',e1⟩:=I.base.there b o e hx
   exact ⟨o',(hs.2 b (Nat.ne_of_lt (Nat.lt_of_lt_of_le (Heap.lt_size e) I.ok.above))).trans e1⟩
  ·by_cases hj:j=i
   ·subst hj
    rw [hi] at e1;cases e1
    rw [List.getElem?_set_self hiσ] at e2
    cases e2
    exact ⟨u,r,.inl ⟨hk,by simp⟩⟩
   ·rw [List.getElem?_set_ne (Ne.symm hj)] at e2
    obtain ⟨u',r',q⟩:=hl j y v' e1 e2 e3
    refine ⟨u',r',?_⟩
    rcases q with ⟨k,e⟩ | ⟨k,c,e,z⟩
    ·refine .inl ⟨k,?_⟩
     have:y≠x:=fun e=>hj (DG hN e1 (e ▸ hi))
     simp [this,e]
    ·exact .inr ⟨k,c,e,z.sameBut hs (cne y c e)⟩
  ·obtain ⟨w',z⟩:=I.cell y c e
   exact ⟨w',z.sameBut hs (cne y c e)⟩
  ·obtain ⟨e,n,ne,nf,d⟩:=I.pin p hp
   exact ⟨(hs.2 p.1 ne).trans e,n,ne,nf,d⟩
 ·have hfn:X.fn x=true:=by
   rcases hf with z | z
   ·exact z
   ·rw [z] at hk;cases hk
  obtain ⟨c,hc⟩:=I.ok.has x (.inl hk)
  obtain ⟨w',z⟩:=I.cell x c hc
  refine wpAny_storeName_cell I.ok.kind hk hc z (fun h' hc' hs=>?_)
  obtain ⟨oc,hoc,hocd⟩:=id z
  refine h { s with heap:=h' } ⟨I.ok,I.os,I.bare,⟨fun b o e n hb hx=>?_,fun b o e n hb hx=>?_,I.base.free,fun b o e hx=>?_,I.base.tups,I.base.frzs,I.base.tbls⟩,⟨m,hn.sameBut hs (Ne.symm (cne x c hc)),fun j y v' e1 e2 e3=>?_⟩,fun y c' e=>?_,I.free,I.freeC,fun p hp=>?_,tracked ⟨oc,hoc,I.freeC x c hc⟩ hs,by simpa using I.len⟩ ⟨c,hs,.inr hc⟩
  ·exact (hs.2 b (Nat.ne_of_lt (Nat.lt_of_lt_of_le (Heap.lt_size e) (I.ok.cab x c hfn hc)))).trans (I.base.keep b o e n hb hx)
  ·obtain ⟨sl,e1⟩:=I.base.slot b o e n hb hx
   exact ⟨sl,(hs.2 b (Nat.ne_of_lt (Nat.lt_of_lt_of_le (Heap.lt_size e) (I.ok.cab x c hfn hc)))).trans e1⟩
  ·obtain ⟨o',e1⟩:=I.base.there b o e hx
   exact ⟨o',(hs.2 b (Nat.ne_of_lt (Nat.lt_of_lt_of_le (Heap.lt_size e) (I.ok.cab x c hfn hc)))).trans e1⟩
  ·by_cases hj:j=i
   ·subst hj
    rw [hi] at e1;cases e1
    rw [List.getElem?_set_self hiσ] at e2
    cases e2
    exact ⟨u,r,.inr ⟨.inl hk,c,hc,hc'⟩⟩
   ·rw [List.getElem?_set_ne (Ne.symm hj)] at e2
    obtain ⟨u',r',q⟩:=hl j y v' e1 e2 e3
    refine ⟨u',r',?_⟩
    rcases q with q | ⟨k,c',e,z'⟩
    ·exact .inl q
    ·refine .inr ⟨k,c',e,z'.sameBut hs ?_⟩
     rintro rfl
     exact hj (DG hN e1 (I.ok.inj _ _ _ e hc ▸ hi))
  ·by_cases hcc:c'=c
   ·subst hcc;exact ⟨_,hc'⟩
   ·obtain ⟨w2,z2⟩:=I.cell y c' e
    exact ⟨w2,z2.sameBut hs hcc⟩
  ·obtain ⟨e,n,ne,nf,d⟩:=I.pin p hp
   refine ⟨(hs.2 p.1 ?_).trans e,n,ne,nf,d⟩
   intro q
   rw [q,hoc] at e
   have q':oc=p.2:=Option.some.inj e
   exact d w' (by rw [<- q'];exact hocd)
theorem D9 {M:Model} {A:Around} {E:Value->Shared->Prop} {i:Nat} {x:Str} {v:V} {u:Value} {Q:Unit->Shared->Prop} (I:Inv X pins σ H s) (hN:X.N.Nodup) (hi:X.N[i]?=some x) (hx:Loc X.env.scope x) (r:RelV v u)
  (h:∀ s',Inv X pins (σ.set i (some v)) H s'->Q () s') (hf:X.fn x=true\/X.env.scope.names.lookup x=some .local:=by first | exact .inl rfl | exact .inr rfl | assumption):wpAny M A (storeName X.env x u) Q E s :=
 Cr I hN hi hx r (fun s' I' _=>h s' I') hf
theorem Inv.call' {s':Shared} {ch:List Addr} (I:Inv X pins σ H s) (ho:s'.os=s.os) (u:Un (wC X.stack) ch H H' s.heap s'.heap) (hok:iU X.prog X.w H' s'.heap) (hg:AllBare s'.gens)
  (hch:∀ b∈ch,(b∈X.ex\/X.s₀.heap.objs.size<=b)/\b≠X.env.locals/\(∀ x c,X.env.cells.lookup x=some c->c≠b)/\∀ p∈X.pn++pins,p.1≠b):Inv X pins σ H' s':=by
 obtain ⟨h',g',d',t',o'⟩:=s'
 have e:o'=s.os:=ho
 subst e
 exact I.call (g':=g') (t':=t') (d':=d') u hok hg hch
end
noncomputable abbrev XK:=Value->Option Addr->Hp->Prop
noncomputable abbrev St:=List (Option V)
noncomputable abbrev VK:=V->Hp->Prop
noncomputable abbrev TE:=St->Hp->VK->Prop
noncomputable abbrev TT:=St->Hp->(Bool->Hp->Prop)->Prop
noncomputable abbrev TA:=St->Hp->(List V->Hp->Prop)->Prop
structure Ends where
 nx:St->Hp->Prop
 rt:VK
 bk:St->Hp->Prop:=fun _ _=>False
 ct:St->Hp->Prop:=fun _ _=>False
noncomputable abbrev TS:=Ends->St->Hp->Prop
noncomputable def EP (X:Cx) (pins:List (Addr × Obj)) (σ:St) (Q:VK) (u:Value) (s':Shared):Prop:=∃ v H',Inv X pins σ H' s'/\RelV v u/\Q v H'
noncomputable def TP (X:Cx) (pins:List (Addr × Obj)) (σ:St) (Q:Bool->Hp->Prop) (b:Bool) (s':Shared):Prop:=∃ H',Inv X pins σ H' s'/\Q b H'
noncomputable def AP (X:Cx) (pins:List (Addr × Obj)) (σ:St) (Q:List V->Hp->Prop) (us:List Value) (s':Shared):Prop:=∃ vs H',Inv X pins σ H' s'/\Vals vs us/\Q vs H'
noncomputable def SP (X:Cx) (pins:List (Addr × Obj)) (D:Ends) (f:Flow) (s':Shared):Prop :=
 match f with
 | .next=>∃ σ' H',Inv X pins σ' H' s'/\D.nx σ' H'
 | .brk=>∃ σ' H',Inv X pins σ' H' s'/\D.bk σ' H'
 | .cont=>∃ σ' H',Inv X pins σ' H' s'/\D.ct σ' H'
 | .ret u=>∃ v σ' H',Inv X pins σ' H' s'/\RelV v u/\D.rt v H'
noncomputable def PE (X:Cx) (e:Expr) (t:TE):Prop :=
 ∀ (pins:List (Addr × Obj)) (s:Shared) (σ:St) (H:Hp) (Q:VK),Inv X pins σ H s->t σ H Q->wpAny (model X.prog X.w) X.A (eval e X.env) (EP X pins σ Q) X.xe s
noncomputable def PT (X:Cx) (e:Expr) (t:TT):Prop :=
 ∀ (pins:List (Addr × Obj)) (s:Shared) (σ:St) (H:Hp) (Q:Bool->Hp->Prop),Inv X pins σ H s->t σ H Q->wpAny (model X.prog X.w) X.A (isTrue e X.env (eval e X.env)) (TP X pins σ Q) X.xe s
noncomputable def PW (X:Cx) (e:Expr) (t:TT):Prop :=
 ∀ (whole:Sem Value) (pins:List (Addr × Obj)) (s:Shared) (σ:St) (H:Hp) (Q:Bool->Hp->Prop),Inv X pins σ H s->t σ H Q->wpAny (model X.prog X.w) X.A (isTrue e X.env whole) (TP X pins σ Q) X.xe s
theorem PW.pt {X:Cx} {e:Expr} {t:TT} (h:PW X e t):PT X e t:=h _
noncomputable def PA (X:Cx) (es:List Expr) (t:TA):Prop :=
 ∀ (pos:Pos) (pins:List (Addr × Obj)) (s:Shared) (σ:St) (H:Hp) (Q:List V->Hp->Prop),Inv X pins σ H s->t σ H Q->wpAny (model X.prog X.w) X.A (spliced (backTo pos (starEach es X.env))) (AP X pins σ Q) X.xe s
noncomputable def PS (X:Cx) (st:Stmt) (t:TS):Prop :=
 ∀ (pins:List (Addr × Obj)) (s:Shared) (σ:St) (H:Hp) (D:Ends),Inv X pins σ H s->t D σ H->wpAny (model X.prog X.w) X.A (exec st X.env) (SP X pins D) X.xe s
noncomputable def rT (X:Cx) (st:List Stmt) (t:TS):Prop :=
 ∀ (pins:List (Addr × Obj)) (s:Shared) (σ:St) (H:Hp) (D:Ends),Inv X pins σ H s->t D σ H->wpAny (model X.prog X.w) X.A (execs st X.env) (SP X pins D) X.xe s
theorem bR {α:Type} {t:Sem α} {Q Q':α->Shared->Prop} {M:Model} {A:Around} {E:Value->Shared->Prop} {s:Shared} (h:wpAny M A t Q E s) (hQ:∀ a s,Q a s->Q' a s):wpAny M A t Q' E s:=wpAny_mono h hQ fun _ _ x=>x
section
variable {X:Cx}
theorem bin {a b:Expr} {ta tb:TE} (ha:PE X a ta) (hb:PE X b tb) {pins:List (Addr × Obj)} {s:Shared} {σ:St} {H:Hp} {R:V->V->Hp->Prop} (I:Inv X pins σ H s) (h:ta σ H fun x H1=>tb σ H1 fun y H2=>R x y H2)
  {α:Type} {Q:α->Shared->Prop} {f:Value->Value->Sem α}
  (hf:∀ v u s2 x y H2,Inv X pins σ H2 s2->RelV x v->RelV y u->R x y H2->wpAny (model X.prog X.w) X.A (f v u) Q X.xe s2) :
  wpAny (model X.prog X.w) X.A (eval a X.env) (fun v s₁=>wpAny (model X.prog X.w) X.A (eval b X.env) (fun u s₂=>wpAny (model X.prog X.w) X.A (f v u) Q X.xe s₂) X.xe s₁) X.xe s:=by
 refine bR (ha pins s σ H _ I h) fun v s1 ⟨x,H1,I1,r1,q1⟩=>?_
 refine bR (hb pins s1 σ H1 _ I1 q1) fun u s2 ⟨y,H2,I2,r2,q2⟩=>?_
 exact hf v u s2 x y H2 I2 r1 r2 q2
noncomputable def R0 (i:Nat):TE:=fun σ H Q=>∃ v,σ[i]?=some (some v)/\Q v H
noncomputable def tC (v:V):TE:=fun _ H Q=>Q v H
theorem QM {i:Nat} {x:Str} {pos:Pos} (hN:X.N[i]?=some x) (hv:Ru X.env.scope x) (hd:(x == ("__debug__":Str))=false:=by decide) (hcd:(x == ("__classdict__":Str))=false:=by decide):PE X (.Name x pos) (R0 i):=by
 intro pins s σ H Q I h
 obtain ⟨v,e,h⟩:=h
 obtain ⟨m,hn,hl⟩:=I.loc
 obtain ⟨u,r,l⟩:=hl i x v hN e hv
 have fin:EP X pins σ Q u s:=⟨v,H,I,r,h⟩
 rcases l with ⟨hk,hm⟩ | ⟨hk,c,hc,hcell⟩
 ·exact wpAny_Name (wpAny_loadName_local I.ok.kind hk hn hm fin) hd
 ·rcases hk with hk | hk
  ·exact wpAny_Name (wpAny_loadName_cell I.ok.kind hk hc hcell fin) hd
  ·exact wpAny_Name (wpAny_loadName_free I.ok.kind hk hc hcell fin hcd) hd
theorem Qo {i j pos}:PE X (.Constant (.int i) j pos) (tC (.int i)):=fun _ _ _ H _ I h=>wpAny_Constant_int ⟨.int i,H,I.tok _,⟨_,rfl⟩,h⟩
theorem Sw {b j pos}:PE X (.Constant (.bool b) j pos) (tC (.bl b)):=fun _ _ _ H _ I h=>Constant_bool ⟨.bl b,H,I,rfl,h⟩
theorem Qy {x j pos}:PE X (.Constant (.str x) j pos) (tC (.str x)):=fun _ _ _ H _ I h=>Calls.Constant_str ⟨.str x,H,I.tok _,⟨_,rfl⟩,h⟩
noncomputable def Gl (X:Cx) (x:Str):Prop:=X.env.kindOf x=some .globalImplicit
theorem FJ {E:Value->Shared->Prop} {pins:List (Addr × Obj)} {s:Shared} {σ:St} {H:Hp} {x:Str} {u:Value} {pos:Pos} {Q:Value->Shared->Prop} (I:Inv X pins σ H s) (hg:Gl X x) (hm:X.mg x=some u) (h:Q u s)
  (hd:(x == ("__debug__":Str))=false:=by decide):wpAny (model X.prog X.w) X.A (eval (.Name x pos) X.env) Q E s :=
 Calls.Name_function_global I.ok.kind hg (Calls.loadGlobal_global (by rw [I.ok.glob];exact I.mod.glob.keeps I.bk) hm h) hd
theorem lX {E:Value->Shared->Prop} {pins:List (Addr × Obj)} {s:Shared} {σ:St} {H:Hp} {x:Str} {u:Value} {pos:Pos} {Q:Value->Shared->Prop} (I:Inv X pins σ H s) (hg:Gl X x) (hm:X.mg x=none) (hv:bootBuiltins x=some u) (h:Q u s)
  (hn:x≠"__name__":=by decide) (hd:(x == ("__debug__":Str))=false:=by decide):wpAny (model X.prog X.w) X.A (eval (.Name x pos) X.env) Q E s:=by
 obtain ⟨mb,h1,h2⟩:=I.mod.blt
 exact Calls.Name_function_global I.ok.kind hg (Calls.loadGlobal_builtin (by rw [I.ok.glob];exact I.mod.glob.keeps I.bk) hm (by rw [I.ok.blt];exact h1.keeps I.bk) ((h2 x hn).trans hv) h) hd
theorem Pb {x:Str} {v:V} {u:Value} {pos:Pos} (hg:Gl X x) (hm:X.mg x=some u) (r:RelV v u) (hd:(x == ("__debug__":Str))=false:=by decide):PE X (.Name x pos) (tC v) :=
 fun _ _ _ H _ I h=>FJ I hg hm ⟨v,H,I,r,h⟩ hd
theorem PV {x:Str} {v:V} {u:Value} {pos:Pos} (hg:Gl X x) (hm:X.mg x=none) (hv:bootBuiltins x=some u) (r:RelV v u) (hn:x≠"__name__":=by decide) (hd:(x == ("__debug__":Str))=false:=by decide):PE X (.Name x pos) (tC v) :=
 fun _ _ _ H _ I h=>lX I hg hm hv ⟨v,H,I,r,h⟩ hn hd
noncomputable def To (ta tb:TE) (k:Int->Int->Hp->Prop):St->Hp->Prop:=fun σ H=>ta σ H fun x H1=>tb σ H1 fun y H2=>∃ i j,x=.int i/\y=.int j/\k i j H2
variable {a b:Expr} {ta tb:TE} {pos:Pos}
noncomputable def Bt (p:Int->Int->Bool) (ta tb:TE):TE:=fun σ H Q=>To ta tb (fun i j H2=>Q (.bl (p i j)) H2) σ H
noncomputable abbrev TM:TE->TE->TE:=Bt fun i j=>decide (i < j)
noncomputable abbrev TH:TE->TE->TE:=Bt fun i j=>decide (i<=j)
noncomputable abbrev TL:TE->TE->TE:=Bt fun i j=>decide (j < i)
noncomputable abbrev TJ:TE->TE->TE:=Bt fun i j=>decide (j<=i)
noncomputable abbrev TC:TE->TE->TE:=Bt fun i j=>decide (i=j)
noncomputable abbrev TB:TE->TE->TE:=Bt fun i j=>!decide (i=j)
variable {tA tB':TT} {rest:List Expr}
noncomputable def Qj (t u:TT):TT:=fun σ H Q=>t σ H fun c H1=>if c=true then u σ H1 Q else Q false H1
noncomputable def SO (t u:TT):TT:=fun σ H Q=>t σ H fun c H1=>if c=true then Q true H1 else u σ H1 Q
noncomputable def Rh (t:TT):TT:=fun σ H Q=>t σ H fun c H1=>Q (!c) H1
theorem PM (ha:PT X a tA):PW X (.BoolOp .And [a] pos) tA:=by
 intro wh pins s σ H Q I h
 refine isTrue_and (bR (ha pins s σ H Q I h) fun c s1 e=>?_)
 cases c with
 | true=>exact isTrue_and_nil e
 | false=>exact e
theorem Qp (ha:PT X a tA):PW X (.BoolOp .Or [a] pos) tA:=by
 intro wh pins s σ H Q I h
 refine isTrue_or (bR (ha pins s σ H Q I h) fun c s1 e=>?_)
 cases c with
 | false=>exact isTrue_or_nil e
 | true=>exact e
theorem Ry (ha:PT X a tA) (hb:PW X (.BoolOp .And (b :: rest) pos) tB'):PW X (.BoolOp .And (a :: b :: rest) pos) (Qj tA tB'):=by
 intro wh pins s σ H Q I h
 refine isTrue_and (bR (ha pins s σ H _ I h) fun c s1 ⟨H1,I1,q1⟩=>?_)
 cases c with
 | true=>exact hb wh pins s1 σ H1 Q I1 q1
 | false=>exact ⟨H1,I1,q1⟩
theorem R9 (ha:PT X a tA) (hb:PW X (.BoolOp .Or (b :: rest) pos) tB'):PW X (.BoolOp .Or (a :: b :: rest) pos) (SO tA tB'):=by
 intro wh pins s σ H Q I h
 refine isTrue_or (bR (ha pins s σ H _ I h) fun c s1 ⟨H1,I1,q1⟩=>?_)
 cases c with
 | true=>exact ⟨H1,I1,q1⟩
 | false=>exact hb wh pins s1 σ H1 Q I1 q1
theorem QU (ha:PT X a tA):PT X (.UnaryOp .Not a pos) (Rh tA):=by
 intro pins s σ H Q I h
 exact isTrue_not (ha pins s σ H (fun c H1=>Q (!c) H1) I h)
noncomputable def Ni (ta tb:TE):TE:=fun σ H Q=>ta σ H fun x H1=>∃ c,x=.bl c/\if c=true then tb σ H1 Q else Q (.bl false) H1
noncomputable def RX (ta tb:TE):TE:=fun σ H Q=>ta σ H fun x H1=>∃ c,x=.bl c/\if c=true then Q (.bl true) H1 else tb σ H1 Q
theorem Qq {op} {t:TE} (h:PE X a t):PE X (.BoolOp op [a] pos) t:=fun pins s σ H Q I hw=>BoolOp_one (h pins s σ H Q I hw)
theorem Qw (ha:PE X a ta) (hb:PE X (.BoolOp .And (b :: rest) pos) tb):PE X (.BoolOp .And (a :: b :: rest) pos) (Ni ta tb):=by
 intro pins s σ H Q I h
 refine BoolOp_and (bR (ha pins s σ H _ I h) fun v s1 ⟨x,H1,I1,r1,q1⟩=>?_)
 obtain ⟨c,rfl,q1⟩:=q1
 cases r1
 refine wpAny_truthy_bool ?_
 cases c with
 | true=>exact hb pins s1 σ H1 Q I1 q1
 | false=>exact ⟨.bl false,H1,I1,rfl,q1⟩
theorem Sj (ha:PE X a ta) (hb:PE X (.BoolOp .Or (b :: rest) pos) tb):PE X (.BoolOp .Or (a :: b :: rest) pos) (RX ta tb):=by
 intro pins s σ H Q I h
 refine BoolOp_or (bR (ha pins s σ H _ I h) fun v s1 ⟨x,H1,I1,r1,q1⟩=>?_)
 obtain ⟨c,rfl,q1⟩:=q1
 cases r1
 refine wpAny_truthy_bool ?_
 cases c with
 | false=>exact hb pins s1 σ H1 Q I1 q1
 | true=>exact ⟨.bl true,H1,I1,rfl,q1⟩
noncomputable def SY (t:TT) (ta tb:TE):TE:=fun σ H Q=>t σ H fun c H1=>if c=true then ta σ H1 Q else tb σ H1 Q
theorem Ly {c:Expr} (hc:PT X c tA) (ha:PE X a ta) (hb:PE X b tb):PE X (.IfExp c a b pos) (SY tA ta tb):=by
 intro pins s σ H Q I h
 refine wpAny_IfExp (bR (hc pins s σ H _ I h) fun d s1 ⟨H1,I1,q1⟩=>?_)
 cases d with
 | true=>exact ha pins s1 σ H1 Q I1 q1
 | false=>exact hb pins s1 σ H1 Q I1 q1
end
noncomputable def eT (K:PySem.W.Frag) (H:Hp) (a:Addr) (xs:List V):Prop :=
 Rd H a (.lst xs) \/
  ∃ (o:Obj) (its:Array Value) (n:Nat),K.lookup a=some o/\o.cls=.type "list"/\o.dict=none/\o.data=.seq its n/\its.size<=sizeLine/\Vals xs its.toList
noncomputable def iO (K:PySem.W.Frag) (H:Hp) (a:Addr) (xs:List V):Prop :=
 Rd H a (.tup xs) \/
  ∃ (o:Obj) (its:Array Value) (n:Nat),K.lookup a=some o/\o.cls=.type "tuple"/\o.data=.seq its n/\its.size<=sizeLine/\Vals xs its.toList
noncomputable def Ti:Value->Option V
 | .none=>some .non
 | .bool b=>some (.bl b)
 | .int i _=>some (.int i)
 | .str x _=>some (.str x)
 | .bytes b _=>some (.byt b)
 | .float b _=>some (.flt b)
 | .ref a=>some (.ref a)
 | .type n=>some (.ty n)
 | _=>none
theorem RelV.abs {x:V} {u:Value} (r:RelV x u):Ti u=some x:=by
 cases x with
 | non=>cases r;rfl
 | bl _=>cases r;rfl
 | int _=>obtain ⟨t,rfl⟩:=r;rfl
 | str _=>obtain ⟨t,rfl⟩:=r;rfl
 | byt _=>obtain ⟨t,rfl⟩:=r;rfl
 | flt _=>obtain ⟨t,rfl⟩:=r;rfl
 | ref _=>cases r;rfl
 | ty _=>cases r;rfl
theorem RelV.inj {x y:V} {u:Value} (r:RelV x u) (q:RelV y u):x=y:=Option.some.inj (r.abs.symm.trans q.abs)
theorem Vals.inj:∀ {xs ys:List V} {us:List Value},Vals xs us->Vals ys us->xs=ys
 | _,_,_,.nil,.nil=>rfl
 | _,_,_,.cons r t,.cons r' t'=>by rw [r.inj r',Vals.inj t t']
section
variable {X:Cx} {pins:List (Addr × Obj)} {σ:St} {H:Hp} {s:Shared} {a:Addr} {xs ys:List V}
theorem Inv.list (I:Inv X pins σ H s) (h:eT X.K H a xs):∃ its:List Value,Vals xs its/\PlainL s.heap a its.toArray/\xs.length<=sizeLine:=by
 rcases h with h | ⟨o,its,n,hk,hc,hd,hs,hz,r⟩
 ·obtain ⟨z,its,n,r,e⟩:=h.ok I.hok
  exact ⟨its,r,⟨_,n,e,rfl,rfl,rfl⟩,z⟩
 ·refine ⟨its.toList,r,⟨o,n,I.kIn a o hk,hc,hd,by simpa using hs⟩,?_⟩
  have e:=r.length
  simp only [Array.length_toList] at e
  omega
theorem Inv.tuple (I:Inv X pins σ H s) (h:iO X.K H a xs):∃ its:List Value,Vals xs its/\IsTup s.heap a its.toArray/\xs.length<=sizeLine:=by
 rcases h with h | ⟨o,its,n,hk,hc,hs,hz,r⟩
 ·obtain ⟨z,its,r,p⟩:=h.ok I.hok
  exact ⟨its,r,p,z⟩
 ·refine ⟨its.toList,r,⟨o,I.kIn a o hk,hc,n,by simpa using hs⟩,?_⟩
  have e:=r.length
  simp only [Array.length_toList] at e
  omega
theorem Inv.list_inj (I:Inv X pins σ H s) (h:eT X.K H a xs) (h':eT X.K H a ys):xs=ys:=by
 obtain ⟨its,r,⟨o,n,e,_,_,d⟩,_⟩:=I.list h
 obtain ⟨its',r',⟨o',n',e',_,_,d'⟩,_⟩:=I.list h'
 rw [e] at e';cases e'
 rw [d] at d'
 injection d' with d1 _
 have:its=its':=by simpa using congrArg Array.toList d1
 subst this
 exact r.inj r'
theorem Inv.tuple_inj (I:Inv X pins σ H s) (h:iO X.K H a xs) (h':iO X.K H a ys):xs=ys:=by
 obtain ⟨its,r,⟨o,e,_,n,d⟩,_⟩:=I.tuple h
 obtain ⟨its',r',⟨o',e',_,n',d'⟩,_⟩:=I.tuple h'
 rw [e] at e';cases e'
 rw [d] at d'
 injection d' with d1 _
 have:its=its':=by simpa using congrArg Array.toList d1
 subst this
 exact r.inj r'
end
noncomputable abbrev Cx.wish (X:Cx) (E:Value->Shared->Prop):Cx:={ X with xe:=E }
noncomputable abbrev Cx.nox (X:Cx):Cx:=X.wish fun _ _=>False
theorem Cx.Ok.wish {X:Cx} (ok:X.Ok) (E:Value->Shared->Prop):(X.wish E).Ok :=
 ⟨ok.mod,ok.kind,ok.glob,ok.blt,ok.above,ok.inj,ok.has,ok.cab,ok.hd,ok.frames,ok.stk,ok.exf,ok.bs,ok.bsz,ok.noex,ok.exfs,ok.funs,ok.frf⟩
theorem Cx.Ok.unwish {X:Cx} {E:Value->Shared->Prop} (ok:(X.wish E).Ok):X.Ok :=
 ⟨ok.mod,ok.kind,ok.glob,ok.blt,ok.above,ok.inj,ok.has,ok.cab,ok.hd,ok.frames,ok.stk,ok.exf,ok.bs,ok.bsz,ok.noex,ok.exfs,ok.funs,ok.frf⟩
section
variable {X:Cx} {pins:List (Addr × Obj)} {σ:St} {H:Hp} {s:Shared} {E:Value->Shared->Prop}
theorem Inv.wish (I:Inv X pins σ H s) (E:Value->Shared->Prop):Inv (X.wish E) pins σ H s:=⟨I.ok.wish E,I.os,I.bare,I.base,I.loc,I.cell,I.free,I.freeC,I.pin,I.hok,I.len⟩
theorem Inv.unwish (I:Inv (X.wish E) pins σ H s):Inv X pins σ H s:=⟨I.ok.unwish,I.os,I.bare,I.base,I.loc,I.cell,I.free,I.freeC,I.pin,I.hok,I.len⟩
theorem SP.unwish {D:Ends} {f:Flow} {s':Shared} (h:SP (X.wish E) pins D f s'):SP X pins D f s':=by
 cases f with
 | next=>obtain ⟨σ',H',I,q⟩:=h;exact ⟨σ',H',I.unwish,q⟩
 | brk=>obtain ⟨σ',H',I,q⟩:=h;exact ⟨σ',H',I.unwish,q⟩
 | cont=>obtain ⟨σ',H',I,q⟩:=h;exact ⟨σ',H',I.unwish,q⟩
 | ret u=>obtain ⟨v,σ',H',I,r,q⟩:=h;exact ⟨v,σ',H',I.unwish,r,q⟩
theorem rT.nox {st:List Stmt} {t:TS} (h:rT X.nox st t):rT X st t:=fun pins s σ H D I hw =>
 wpAny_mono (h pins s σ H D (I.wish _) hw) (fun _ _ q=>q.unwish) fun _ _ z=>False.elim z
end
section
variable {X:Cx} {st:Stmt} {rest:List Stmt} {t u:TS} {e:Expr} {te:TE} {pos:Pos}
noncomputable def NG:TS:=fun D σ H=>D.nx σ H
noncomputable def Qk (t u:TS):TS:=fun D σ H=>t { D with nx:=u D } σ H
theorem Pp:rT X [] NG:=fun _ _ σ H _ I h=>wpAny_execs_nil ⟨σ,H,I,h⟩
theorem MF (h1:PS X st t) (h2:rT X rest u):rT X (st :: rest) (Qk t u):=by
 intro pins s σ H D I h
 refine wpAny_execs_cons (bR (h1 pins s σ H { D with nx:=u D } I h) fun f s1 q=>?_)
 cases f with
 | next =>
  obtain ⟨σ',H',I',q⟩:=q
  exact h2 pins s1 σ' H' D I' q
 | ret v=>exact q
 | brk=>exact q
 | cont=>exact q
theorem NX (h1:PS X st t):rT X [st] t:=by
 intro pins s σ H D I h
 refine wpAny_execs_cons (bR (h1 pins s σ H D I h) fun f s1 q=>?_)
 cases f with
 | next=>exact wpAny_execs_nil q
 | ret v=>exact q
 | brk=>exact q
 | cont=>exact q
theorem Inv.quiet {pins:List (Addr × Obj)} {σ:St} {H:Hp} {s:Shared} (I:Inv X pins σ H s):interactive X.env=false:=by simp [interactive,I.ok.kind]
noncomputable def Nt (te:TE):TS:=fun D σ H=>te σ H fun _ H1=>D.nx σ H1
theorem Pk (he:PE X e te) (hs:swapsWith e none pos.line X.env=pure false:=by rfl):PS X (.Expr e pos) (Nt te):=by
 intro pins s σ H D I h
 exact wpAny_Expr_any (bR (he pins s σ H _ I h) fun v s1 ⟨x,H1,I1,r1,q1⟩=>⟨σ,H1,I1,q1⟩) I.quiet hs
noncomputable def Qn (te:TE):TS:=fun D σ H=>te σ H D.rt
theorem PY (he:PE X e te):PS X (.Return (some e) pos) (Qn te):=by
 intro pins s σ H D I h
 exact wpAny_Return_some (bR (he pins s σ H _ I h) fun v s1 ⟨x,H1,I1,r1,q1⟩=>⟨x,σ,H1,I1,r1,q1⟩)
noncomputable def QB (c:TT) (t u:TS):TS:=fun D σ H=>c σ H fun b H1=>if b=true then t D σ H1 else u D σ H1
theorem Sg {c:Expr} {a b:List Stmt} {tc:TT} (hc:PT X c tc) (ha:rT X a t) (hb:rT X b u):PS X (.If c a b pos) (QB tc t u):=by
 intro pins s σ H D I h
 refine wpAny_If (bR (hc pins s σ H _ I h) fun d s1 ⟨H1,I1,q1⟩=>?_)
 cases d with
 | true=>exact ha pins s1 σ H1 D I1 q1
 | false=>exact hb pins s1 σ H1 D I1 q1
end
noncomputable abbrev TG:=V->St->Hp->(St->Hp->Prop)->Prop
noncomputable abbrev qJ:=List V->St->Hp->(St->Hp->Prop)->Prop
noncomputable def PG (X:Cx) (target:Expr) (t:TG):Prop :=
 ∀ (pins:List (Addr × Obj)) (s:Shared) (σ:St) (H:Hp) (v:V) (u:Value) (Q:St->Hp->Prop),Inv X pins σ H s->RelV v u->t v σ H Q ->
  wpAny (model X.prog X.w) X.A (assign target X.env u) (fun _ s'=>∃ σ' H',Inv X pins σ' H' s'/\Q σ' H') X.xe s
noncomputable def JM (X:Cx) (ts:List Expr) (t:qJ):Prop :=
 ∀ (pins:List (Addr × Obj)) (s:Shared) (σ:St) (H:Hp) (vs:List V) (us:List Value) (Q:St->Hp->Prop),Inv X pins σ H s->Vals vs us->t vs σ H Q ->
  wpAny (model X.prog X.w) X.A (assignInOrder ((assignEach ts X.env).map (·.2)) us) (fun _ s'=>∃ σ' H',Inv X pins σ' H' s'/\Q σ' H') X.xe s
noncomputable abbrev Tz:=V->V->V->Hp->(Hp->Prop)->Prop
noncomputable abbrev TF:=V->V->Hp->VK->Prop
section
variable {X:Cx} {pos:Pos}
noncomputable def uZ (i:Nat):TG:=fun v σ H Q=>Q (σ.set i (some v)) H
theorem OI {i:Nat} {x:Str} (hN:X.N.Nodup) (hi:X.N[i]?=some x) (hx:Loc X.env.scope x) (hf:X.fn x=true\/X.env.scope.names.lookup x=some .local:=by first | exact .inl rfl | exact .inr rfl | assumption):PG X (.Name x pos) (uZ i):=by
 intro pins s σ H v u Q I r h
 exact wpAny_assign_Name (D9 I hN hi hx r (fun s' I'=>⟨_,H,I',h⟩) hf)
noncomputable def Ex:qJ:=fun vs σ H Q=>vs=[]/\Q σ H
noncomputable def Bg (t:TG) (u:qJ):qJ:=fun vs σ H Q=>∃ v r,vs=v :: r/\t v σ H fun σ' H'=>u r σ' H' Q
theorem O1:JM X [] Ex:=by
 intro pins s σ H vs us Q I r h
 obtain ⟨e,h⟩:=h
 subst e
 cases r
 exact assignInOrder_nil ⟨σ,H,I,h⟩
theorem Md {e:Expr} {es:List Expr} {t:TG} {u:qJ} (h1:PG X e t) (h2:JM X es u)
  (hs:(assignEach (e :: es) X.env).map (·.2)=assign e X.env :: (assignEach es X.env).map (·.2):=by rfl):JM X (e :: es) (Bg t u):=by
 intro pins s σ H vs us Q I r h
 obtain ⟨v,vr,e1,h⟩:=h
 subst e1
 cases r with
 | cons r rr =>
  rw [hs]
  refine assignInOrder_cons (bR (h1 pins s σ H _ _ _ I r h) fun _ s1 ⟨σ1,H1,I1,q1⟩=>?_)
  exact h2 pins s1 σ1 H1 _ _ Q I1 rr q1
noncomputable def DF (K:PySem.W.Frag) (n:Nat) (t:qJ):TG:=fun v σ H Q=>∃ a xs,v=.ref a/\iO K H a xs/\xs.length=n/\t xs σ H Q
theorem Rq {es:List Expr} {k:Nat} {t:qJ} {n:Nat} (hc:X.calm=true) (h:JM X es t)
  (hn:(assignEach es X.env).length=n:=by rfl) (hst:(assignEach es X.env).findIdx? (·.1)=none:=by rfl):PG X (.Tuple es k pos) (DF X.K n t):=by
 intro pins s σ H v u Q I r hw
 obtain ⟨a,xs,e1,hq,hl,hw⟩:=hw
 subst e1
 cases r
 obtain ⟨its,rv,ht,hz⟩:=I.tuple hq
 refine assign_Tuple_tuple (I.ok.hd hc) ht (by simp [hn,<- hl,rv.length]) hst fun h' hx=>?_
 have I1:Inv X pins σ H { s with heap:=h' }:=I.kept (t':=s.toks) fun b o e=>hx b o (Nat.ne_of_lt (Heap.lt_size e)) e
 exact h pins _ σ H xs _ Q I1 (by simpa using rv) hw
noncomputable def HH (te:TE) (g:TG):TS:=fun D σ H=>te σ H fun x H1=>g x σ H1 D.nx
theorem JK {tg e:Expr} {te:TE} {g:TG} (he:PE X e te) (hg:PG X tg g) (hs:swapsWithSole [tg] e pos.line X.env=pure false:=by rfl) (hw:swappedStores [tg] e X.env=pure none:=by rfl)
  (h1:(assignEach [tg] X.env).map (·.2)=[assign tg X.env]:=by rfl):PS X (.Assign [tg] e pos) (HH te g):=by
 intro pins s σ H D I h
 refine wpAny_Assign_stores (bR (he pins s σ H _ I h) fun v s1 ⟨x,H1,I1,r1,q1⟩=>?_) hs hw
 rw [h1]
 exact bR (hg pins s1 σ H1 x v _ I1 r1 q1) fun _ s2 q=>q
theorem Rk {i:Nat} {x:Str} {e:Expr} {te:TE} {pos':Pos} (hN:X.N.Nodup) (hi:X.N[i]?=some x) (hx:Loc X.env.scope x) (he:PE X e te) (hs:swapsWith e (some (.Name x pos')) pos.line X.env=pure false:=by rfl) (hf:X.fn x=true\/X.env.scope.names.lookup x=some .local:=by first | exact .inl rfl | exact .inr rfl | assumption) :
  PS X (.Assign [.Name x pos'] e pos) (HH te (uZ i)):=by
 intro pins s σ H D I h
 refine wpAny_Assign_Name (bR (he pins s σ H _ I h) fun v s1 ⟨y,H1,I1,r1,q1⟩=>?_) hs
 exact D9 I1 hN hi hx r1 (fun s2 I2=>⟨_,H1,I2,q1⟩) hf
end
section
variable {X:Cx} {pos:Pos}
noncomputable def JG (c:TT) (tb:TS):TS:=fun D σ H=>∃ W:Nat->St->Hp->Prop,(∃ m,W m σ H)/\∀ m σ H,W m σ H ->
 c σ H fun b H1=>if b=true then ∃ N:St->Hp->Prop,(∀ σ' H',N σ' H'->∃ m',m' < m/\W m' σ' H')/\tb { D with nx:=N,ct:=N,bk:=D.nx } σ H1 else D.nx σ H1
theorem Mq {c:Expr} {body:List Stmt} {tc:TT} {tb:TS} (hp:PassesOwn (model X.prog X.w) X.A X.env X.xe) (hc:PT X c tc) (hb:rT X body tb):PS X (.While c body [] pos) (JG tc tb):=by
 intro pins s σ H D I h
 obtain ⟨W,⟨m0,w0⟩,turn⟩:=h
 refine wpAny_While (codeAny_whileLoop (fun n s'=>∃ σ' H',Inv X pins σ' H' s'/\W n σ' H') ?_ m0 ⟨σ,H,I,w0⟩)
 rintro n s1 ⟨σ1,H1,I1,w1⟩
 refine wpAny_passesOwn hp (bR (hc pins s1 σ1 H1 _ I1 (turn n σ1 H1 w1)) fun b s2 ⟨H2,I2,q2⟩=>?_)
 cases b with
 | true =>
  obtain ⟨N,hN,q2⟩:=q2
  rw [if_pos rfl]
  refine wpAny_passesOwn hp (bR (hb pins s2 σ1 H2 _ I2 q2) fun f s3 q3=>?_)
  cases f with
  | next =>
   obtain ⟨σ3,H3,I3,n3⟩:=q3
   obtain ⟨m',hm,w3⟩:=hN σ3 H3 n3
   exact ⟨m',hm,σ3,H3,I3,w3⟩
  | cont =>
   obtain ⟨σ3,H3,I3,n3⟩:=q3
   obtain ⟨m',hm,w3⟩:=hN σ3 H3 n3
   exact ⟨m',hm,σ3,H3,I3,w3⟩
  | brk=>exact q3
  | ret v=>exact q3
 | false =>
  rw [if_neg Bool.false_ne_true]
  exact wpAny_execs_nil ⟨σ1,H2,I2,q2⟩
end
structure It where
 go:Nat->Hp->Prop
 yld:Nat->Hp->V->Hp->Prop
 stop:Nat->Hp->Prop
noncomputable def t9 (X:Cx) (pins:List (Addr × Obj)) (H:Hp) (b:Addr):Prop :=
 H b=none/\b≠X.env.locals/\b ∉ X.fs/\(b∈X.ex\/X.s₀.heap.objs.size<=b)/\(∀ x c,X.env.cells.lookup x=some c->c≠b)/\∀ p∈X.pn++pins,p.1≠b
theorem Inv.fpOk {X:Cx} {pins:List (Addr × Obj)} {σ:St} {H H':Hp} {s:Shared} {b:Addr} (I:Inv X pins σ H s) (hb:s.heap.objs.size<=b) (hn:H' b=none):t9 X pins H' b:=by
 refine ⟨hn,Nat.ne_of_gt (Nat.lt_of_lt_of_le I.lt hb),I.nofs hb,.inr (Nat.le_trans I.sz hb),fun x c e z=>?_,fun p hp z=>?_⟩
 ·obtain ⟨v,q⟩:=I.cell x c e
  exact absurd (Nat.lt_of_lt_of_le q.lt (by rw [z];exact hb)) (Nat.lt_irrefl _)
 ·exact absurd (Nat.lt_of_lt_of_le (Heap.lt_size (I.pin p hp).1) (by rw [z];exact hb)) (Nat.lt_irrefl _)
structure Turn (P:Program) (w:World) (K:PySem.W.Frag) (tg:Expr) (J:It) (fp:List Addr) (it:Addr) (tn:Nat->Heap->Prop):Prop where
 mem:it∈fp
 obj:∀ i h,tn i h->∀ b∈fp,∃ o,h.get? b=some o/\∀ v,o.data≠.cell v
 keep:∀ i h h',tn i h->(∀ b∈fp,∀ o,h.get? b=some o->h'.get? b=some o)->tn i h'
 item:∀ (X:Cx),X.prog=P->X.w=w->X.K=K->X.calm=true->∀ (i:Nat) (pins:List (Addr × Obj)) (s:Shared) (σ:St) (H:Hp) (E:Value->Shared->Prop),Inv X pins σ H s->(∀ b∈fp,t9 X pins H b)->tn i s.heap->J.go i H ->
  wpAny (model P w) X.A (pyNext (.ref it)) (fun r s1=>∃ u,r=some u /\
   wpAny (model P w) X.A (letOwnedTupleGo tg (.ref it) u) (fun _ s2=>∃ x H',Inv X pins σ H' s2/\RelV x u/\J.yld i H x H'/\tn (i + 1) s2.heap/\∀ b∈fp,H' b=none) E s1) E s
 done:∀ (X:Cx),X.prog=P->X.w=w->X.K=K->X.calm=true->∀ (i:Nat) (pins:List (Addr × Obj)) (s:Shared) (σ:St) (H:Hp) (E:Value->Shared->Prop),Inv X pins σ H s->(∀ b∈fp,t9 X pins H b)->tn i s.heap->J.stop i H ->
  wpAny (model P w) X.A (pyNext (.ref it)) (fun r s1=>r=none/\Inv X pins σ H s1) E s
 self:∀ (A:Around) (i:Nat) (s:Shared) (Q:Value->Shared->Prop) (E:Value->Shared->Prop),tn i s.heap->Q (.ref it) s->wpAny (model P w) A (pyIter (.ref it)) Q E s
noncomputable abbrev TI:=St->Hp->(It->Hp->Prop)->Prop
noncomputable def SV (X:Cx) (pins:List (Addr × Obj)) (σ:St) (tg:Expr) (R:It->Hp->Prop) (itv:Value) (s2:Shared):Prop :=
 ∃ (it:Addr) (fp:List Addr) (tn:Nat->Heap->Prop) (J:It) (H':Hp),itv=.ref it/\Inv X pins σ H' s2/\Turn X.prog X.w X.K tg J fp it tn/\tn 0 s2.heap/\(∀ b∈fp,t9 X pins H' b)/\R J H'
noncomputable def PI (X:Cx) (tg iter:Expr) (wi:TI):Prop :=
 ∀ (pins:List (Addr × Obj)) (s:Shared) (σ:St) (H:Hp) (R:It->Hp->Prop),Inv X pins σ H s->wi σ H R ->
  wpAny (model X.prog X.w) X.A (eval iter X.env) (fun v s1=>wpAny (model X.prog X.w) X.A (pyIter v) (SV X pins σ tg R) X.xe s1) X.xe s
theorem vY {M:Model} {A:Around} {E:Value->Shared->Prop} {s:Shared} {tg:Expr} {it:Addr} {u:Value} {o:Obj} {n:String} {vs:Array Value} {Q:Unit->Shared->Prop} (ho:s.heap.get? it=some o) (hc:o.cls=.type n) (hd:o.data=.fields vs)
    (hn:["enumerate","zip","dict_itemiterator","dict_reverseitemiterator","odict_iterator","itertools.zip_longest","itertools.pairwise"].contains n=false) (hQ:Q () s):wpAny M A (letOwnedTupleGo tg (.ref it) u) Q E s:=by
  unfold letOwnedTupleGo
  cases tg <;> first
    | exact wpAny_pure hQ
    | (cases u <;> first
        | exact wpAny_pure hQ
        | (refine wpAny_bind (wpAny_load ho ?_)
           rw [hc,hd]
           show wpAny M A (if (["enumerate","zip","dict_itemiterator","dict_reverseitemiterator","odict_iterator","itertools.zip_longest","itertools.pairwise"].contains n && vs[0]? == some (rawInt _))=true then _ else _) Q E s
           rw [if_neg (by intro h;rw [hn,Bool.false_and] at h;cases h)]
           exact wpAny_pure hQ))
noncomputable def ND (K:PySem.W.Frag) (a:Addr):It :=
 ⟨fun i H=>∃ xs x,eT K H a xs/\xs[i]?=some x,fun i H x H'=>H'=H/\∀ xs,eT K H a xs->xs[i]?=some x,fun i H=>∃ xs,eT K H a xs/\xs.length<=i⟩
noncomputable def QV (K:PySem.W.Frag) (a:Addr):It :=
 ⟨fun i H=>∃ xs x,iO K H a xs/\xs[i]?=some x,fun i H x H'=>H'=H/\∀ xs,iO K H a xs->xs[i]?=some x,fun i H=>∃ xs,iO K H a xs/\xs.length<=i⟩
noncomputable def Be (lo:Int) (n:Nat):It:=⟨fun i _=>i < n,fun i H x H'=>H'=H/\x=.int (lo + i),fun i _=>n<=i⟩
theorem IW {P:Program} {w:World} {K:PySem.W.Frag} {tg:Expr} (a it:Addr):Turn P w K tg (ND K a) [it] it (fun i h=>h.IsListIter it a i) where
 mem:=by simp
 obj:=fun i h st b hb=>by
  have e:b=it:=by simpa using hb
  subst e
  obtain ⟨o,e,c,d⟩:=st
  exact ⟨o,e,fun v z=>by rw [d] at z;cases z⟩
 keep:=fun i h h' st k=>st.at fun o e=>k it (by simp) o e
 item:=by
  intro X hP hw hK hc i pins s σ H E I hf st hg
  subst hP hw hK
  obtain ⟨xs,x,hq,hx⟩:=hg
  obtain ⟨its,rv,p,hz⟩:=I.list hq
  obtain ⟨u,hu,ru⟩:=rv.get hx
  obtain ⟨f0,f1,f2,f3,f4,f5⟩:=hf it (by simp)
  refine wpAny_pyNext_list_item st p.isList (x:=u) (by simpa using hu) fun h' st' sb=>?_
  have I1:Inv X pins σ H { s with heap:=h' }:=I.turned (t':=s.toks) (fun b o hb e=>(sb.2 b hb).trans e) f0 f1 f3 f4 f5
  obtain ⟨o,e,c,d⟩:=id st'
  exact ⟨u,rfl,vY (s:={ s with heap:=h' }) e c d (by decide) ⟨x,H,I1,ru,⟨rfl,fun ys hy=>by rw [I.list_inj hy hq];exact hx⟩,st',fun b hb=>(hf b hb).1⟩⟩
 done:=by
  intro X hP hw hK hc i pins s σ H E I hf st hg
  subst hP hw hK
  obtain ⟨xs,hq,hx⟩:=hg
  obtain ⟨its,rv,p,hz⟩:=I.list hq
  obtain ⟨f0,f1,f2,f3,f4,f5⟩:=hf it (by simp)
  have hl:=rv.length
  exact wpAny_pyNext_list_end (I.ok.hd hc) st p.isList (by simp;omega) fun h' eb=>⟨rfl,I.turned (t':=s.toks) (fun b o hb e=>eb b o hb e) f0 f1 f3 f4 f5⟩
 self:=fun _ _ _ _ _ st h=>wpAny_pyIter_listiter st h
theorem HF {P:Program} {w:World} {K:PySem.W.Frag} {tg:Expr} (a it:Addr):Turn P w K tg (QV K a) [it] it (fun i h=>h.IsTupleIter it a i) where
 mem:=by simp
 obj:=fun i h st b hb=>by
  have e:b=it:=by simpa using hb
  subst e
  obtain ⟨o,e,c,d⟩:=st
  exact ⟨o,e,fun v z=>by rw [d] at z;cases z⟩
 keep:=fun i h h' st k=>st.at fun o e=>k it (by simp) o e
 item:=by
  intro X hP hw hK hc i pins s σ H E I hf st hg
  subst hP hw hK
  obtain ⟨xs,x,hq,hx⟩:=hg
  obtain ⟨its,rv,p,hz⟩:=I.tuple hq
  obtain ⟨u,hu,ru⟩:=rv.get hx
  obtain ⟨f0,f1,f2,f3,f4,f5⟩:=hf it (by simp)
  refine wpAny_pyNext_tuple_item st (show s.heap.IsTuple a its.toArray from p) (x:=u) (by simpa using hu) fun h' st' sb=>?_
  have I1:Inv X pins σ H { s with heap:=h' }:=I.turned (t':=s.toks) (fun b o hb e=>(sb.2 b hb).trans e) f0 f1 f3 f4 f5
  obtain ⟨o,e,c,d⟩:=id st'
  exact ⟨u,rfl,vY (s:={ s with heap:=h' }) e c d (by decide) ⟨x,H,I1,ru,⟨rfl,fun ys hy=>by rw [I.tuple_inj hy hq];exact hx⟩,st',fun b hb=>(hf b hb).1⟩⟩
 done:=by
  intro X hP hw hK hc i pins s σ H E I hf st hg
  subst hP hw hK
  obtain ⟨xs,hq,hx⟩:=hg
  obtain ⟨its,rv,p,hz⟩:=I.tuple hq
  obtain ⟨f0,f1,f2,f3,f4,f5⟩:=hf it (by simp)
  have hl:=rv.length
  exact wpAny_pyNext_tuple_end (I.ok.hd hc) st (show s.heap.IsTuple a its.toArray from p) (by simp;omega) fun h' eb=>⟨rfl,I.turned (t':=s.toks) (fun b o hb e=>eb b o hb e) f0 f1 f3 f4 f5⟩
 self:=fun _ _ _ _ _ st h=>wpAny_pyIter_tupleiter st h
theorem GS {P:Program} {w:World} {K:PySem.W.Frag} {tg:Expr} (it:Addr) (lo:Int) (n:Nat):Turn P w K tg (Be lo n) [it] it (fun i h=>IsRangeIter h it (lo + (i:Nat) * 1) ((n:Int) - (i:Nat)) 1) where
 mem:=by simp
 obj:=fun i h st b hb=>by
  have e:b=it:=by simpa using hb
  subst e
  exact ⟨_,st,fun v z=>by
   have z':Data.fields _=Data.cell v:=z
   cases z'⟩
 keep:=fun i h h' st k=>k it (by simp) _ st
 item:=by
  intro X hP hw hK hc i pins s σ H E I hf st hg
  subst hP hw hK
  obtain ⟨f0,f1,f2,f3,f4,f5⟩:=hf it (by simp)
  have W:=Walks.range (prog:=X.prog) (w:=X.w) (I.ok.hd hc) it lo 1 n
  refine W.item i s _ _ hg st fun v h' tk hv st' kk=>?_
  obtain ⟨t,rfl⟩:=hv
  have I1:Inv X pins σ H { s with heap:=h',toks:=tk }:=I.turned (fun b o hb e=>kk b o (by simpa using hb) e) f0 f1 f3 f4 f5
  refine ⟨_,rfl,vY (s:={ s with heap:=h',toks:=tk }) (n:="range_iterator") st' rfl rfl (by decide) ⟨.int (lo + i),H,I1,⟨t,?_⟩,⟨rfl,rfl⟩,st',fun b hb=>(hf b hb).1⟩⟩
  rw [Int.mul_one]
 done:=by
  intro X hP hw hK hc i pins s σ H E I hf st hg
  subst hP hw hK
  obtain ⟨f0,f1,f2,f3,f4,f5⟩:=hf it (by simp)
  exact wpAny_pyNext_range_end (I.ok.hd hc) st (by have:n<=i:=hg;omega) fun h' eb=>⟨rfl,I.turned (t':=s.toks) (fun b o hb e=>eb b o hb e) f0 f1 f3 f4 f5⟩
 self:=fun _ _ _ _ _ st h=>wpAny_pyIter_rangeiter st h
section
variable {X:Cx} {tg:Expr}
theorem EV {pins:List (Addr × Obj)} {σ:St} {H:Hp} {s:Shared} {R:It->Hp->Prop} {E:Value->Shared->Prop} {lo hi:Int} {t u v:Tok} {tk:Nat} (I:Inv X pins σ H s) (h1:-(2 ^ 62)<=lo) (h2:lo < 2 ^ 62) (h3:-(2 ^ 62)<=hi) (h4:hi < 2 ^ 62)
  (q:R (Be lo (hi - lo).toNat) H):wpAny (model X.prog X.w) X.A (pyIter (.ref s.heap.objs.size)) (SV X pins σ tg R) E { s with heap:=s.heap.push { cls:=.type "range",data:=.fields #[.int lo t,.int hi u,.int 1 v] },toks:=tk }:=by
 refine wpAny_pyIter_range (IsRange.new ..) (small_one h1 h2 h3 h4) ?_
 have I1:Inv X pins σ H { s with heap:=s.heap.push { cls:=.type "range",data:=.fields #[.int lo t,.int hi u,.int 1 v] },toks:=tk }:=I.kept fun b o e=>Heap.get?_push_of_some _ e
 refine ⟨(s.heap.push { cls:=.type "range",data:=.fields #[.int lo t,.int hi u,.int 1 v] }).objs.size,[(s.heap.push { cls:=.type "range",data:=.fields #[.int lo t,.int hi u,.int 1 v] }).objs.size],_,_,H,rfl,
  I1.kept (t':=tk) fun b o e=>Heap.get?_push_of_some _ e,GS _ lo (hi - lo).toNat,?_,fun b hb=>?_,q⟩
 ·have e1:lo + ((0:Nat):Int) * 1=lo:=by simp
  have e2:(((hi - lo).toNat:Nat):Int) - ((0:Nat):Int)=Builtin.Range.rangeSize lo hi 1:=by rw [rangeSize_one];split <;> omega
  show IsRangeIter _ _ (lo + ((0:Nat):Int) * 1) ((((hi - lo).toNat:Nat):Int) - ((0:Nat):Int)) 1
  rw [e1,e2]
  exact Heap.get?_push_size _ rfl
 ·have e:b=(s.heap.push { cls:=.type "range",data:=.fields #[.int lo t,.int hi u,.int 1 v] }).objs.size:=by simpa using hb
  subst e
  exact I1.fpOk (Nat.le_refl _) (I1.hok.fresh (Nat.le_refl _))
noncomputable def NO (ta:TA):TI:=fun σ H R=>ta σ H fun vs H1=>∃ j:Int,vs=[.int j]/\-(2 ^ 62)<=j/\j < 2 ^ 62/\R (Be 0 j.toNat) H1
noncomputable def Nl (ta:TA):TI:=fun σ H R=>ta σ H fun vs H1=>∃ i j:Int,vs=[.int i,.int j]/\(-(2 ^ 62)<=i/\i < 2 ^ 62/\-(2 ^ 62)<=j/\j < 2 ^ 62)/\R (Be i (j - i).toNat) H1
theorem K6 {a:Expr} {ta:TA} {p pos:Pos} (hg:Gl X "range") (hm:X.mg "range"=none) (ha:PA X [a] ta) (hs:starEach [a] X.env=[(false,eval a X.env)]:=by rfl):PI X tg (.Call (.Name "range" p) [a] [] pos) (NO ta):=by
 intro pins s σ H R I h
 refine Call_ (lX I hg hm boot_range (PyProof.Rows.callWith_type1 (bR (ha pos pins s σ H _ I h) fun us s1 ⟨vs,H1,I1,r1,q1⟩=>?_) hs rfl))
 obtain ⟨j,e,q1,q2,q⟩:=q1
 subst e
 cases r1 with
 | cons r rr =>
  cases rr
  obtain ⟨t,rfl⟩:=r
  exact call_range_1 (EV I1 (by omega) (by omega) q1 q2 (by simpa using q))
theorem IQ {a b:Expr} {ta:TA} {p pos:Pos} (hg:Gl X "range") (hm:X.mg "range"=none) (ha:PA X [a,b] ta) (hs:starEach [a,b] X.env=[(false,eval a X.env),(false,eval b X.env)]:=by rfl) (hs2:starEach [b] X.env=[(false,eval b X.env)]:=by rfl) :
  PI X tg (.Call (.Name "range" p) [a,b] [] pos) (Nl ta):=by
 intro pins s σ H R I h
 refine Call_ (lX I hg hm boot_range (PyProof.Rows.callWith_type1 (bR (ha pos pins s σ H _ I h) fun us s1 ⟨vs,H1,I1,r1,q1⟩=>?_) (by rw [hs,hs2]) (by rw [hs2];rfl)))
 obtain ⟨i,j,e,⟨q1,q2,q3,q4⟩,q⟩:=q1
 subst e
 cases r1 with
 | cons r rr =>
  cases rr with
  | cons r' rr =>
   cases rr
   obtain ⟨t,rfl⟩:=r
   obtain ⟨t',rfl⟩:=r'
   exact call_range_2 (EV I1 q1 q2 q3 q4 q)
noncomputable def RE (wi:TI) (g:TG) (tb:TS):TS:=fun D σ H=>wi σ H fun J H1=>∃ W:Nat->Nat->St->Hp->Prop,(∃ m,W 0 m σ H1)/\∀ i m σ H,W i m σ H ->
 (J.stop i H/\D.nx σ H)\/(J.go i H/\∃ N:St->Hp->Prop,(∀ σ' H',N σ' H'->∃ m',m' < m/\W (i + 1) m' σ' H')/\∀ x H',J.yld i H x H'->g x σ H' fun σ2 H2=>tb { D with nx:=N,ct:=N,bk:=D.nx } σ2 H2)
noncomputable def xX (fp:List Addr) (h:Heap):List (Addr × Obj):=fp.filterMap fun b=>(h.get? b).map fun o=>(b,o)
theorem pM {fp:List Addr} {h:Heap} {b:Addr} {o:Obj} (hb:b∈fp) (e:h.get? b=some o):(b,o)∈xX fp h:=List.mem_filterMap.mpr ⟨b,hb,by rw [e];rfl⟩
theorem K7 {fp:List Addr} {h:Heap} {p:Addr × Obj} (hp:p∈xX fp h):p.1∈fp/\h.get? p.1=some p.2:=by
 obtain ⟨b,hb,e⟩:=List.mem_filterMap.mp hp
 cases q:h.get? b with
 | none=>rw [q] at e;cases e
 | some o =>
  rw [q] at e
  have e':(b,o)=p:=Option.some.inj e
  subst e'
  exact ⟨hb,q⟩
theorem Inv.pinned {pins:List (Addr × Obj)} {σ:St} {H:Hp} {s:Shared} {fp:List Addr} (I:Inv X pins σ H s) (hf:∀ b∈fp,t9 X pins H b) (ho:∀ b∈fp,∃ o,s.heap.get? b=some o/\∀ v,o.data≠.cell v):Inv X (pins++xX fp s.heap) σ H s :=
 I.pins_of fun p hp=>(List.mem_append.mp hp).elim (fun z=>I.pin p (List.mem_append_right _ z)) fun z=>by
  obtain ⟨hb,e⟩:=K7 z
  obtain ⟨f0,f1,f2,_⟩:=hf p.1 hb
  obtain ⟨o,e',d⟩:=ho p.1 hb
  rw [e] at e';cases e'
  exact ⟨e,f0,f1,f2,d⟩
theorem Inv.unpinned {pins pl:List (Addr × Obj)} {σ:St} {H:Hp} {s:Shared} (I:Inv X (pins++pl) σ H s):Inv X pins σ H s:=I.pins_of fun p hp=>I.pin p (List.mem_append_right _ (List.mem_append_left _ hp))
theorem Qg {iter:Expr} {body:List Stmt} {wi:TI} {g:TG} {tb:TS} {pos:Pos} (hp:PassesOwn (model X.prog X.w) X.A X.env X.xe) (hc:X.calm=true) (hi:PI X tg iter wi) (hg:PG X tg g) (hb:rT X body tb)
  (hs:∀ x,foldedSetIterable iter X.env x=pure x:=by intro _;rfl):PS X (.For tg iter body [] pos) (RE wi g tb):=by
 intro pins s σ H D I h
 refine wpAny_For (bR (hi pins s σ H _ I h) fun v s1 h1=>bR h1 fun itv s2 h2=>?_) hs
 obtain ⟨it,fp,tn,J,H2,e,I2,T,eD,f2,W,⟨m0,w0⟩,turn⟩:=h2
 subst e
 have stat:∀ {H':Hp},(∀ b∈fp,H' b=none)->∀ b∈fp,t9 X pins H' b:=fun hn b hb=>⟨hn b hb,(f2 b hb).2⟩
 refine codeAny_forLoop_any (fun n s'=>∃ i σ' H',Inv X pins σ' H' s'/\tn i s'.heap/\(∀ b∈fp,H' b=none)/\W i n σ' H') ?_ m0 ⟨0,σ,H2,I2,eD,fun b hb=>(f2 b hb).1,w0⟩
 rintro n s3 ⟨i,σ3,H3,I3,st3,fr3,w3⟩
 rcases turn i n σ3 H3 w3 with ⟨stop,qn⟩ | ⟨go,N,hN,step⟩
 ·refine wpAny_passesOwn hp (bR (T.done X rfl rfl rfl hc i pins s3 σ3 H3 X.xe I3 (stat fr3) st3 stop) fun r s4 ⟨hr,I4⟩=>?_)
  subst hr
  exact wpAny_execs_nil ⟨σ3,H3,I4,qn⟩
 ·refine wpAny_passesOwn hp (bR (T.item X rfl rfl rfl hc i pins s3 σ3 H3 X.xe I3 (stat fr3) st3 go) fun r s4 ⟨u,hr,h4⟩=>?_)
  subst hr
  refine wpAny_passesOwn hp (bR h4 fun _ s5 ⟨x,H5,I5,r5,y5,st5,fr5⟩=>?_)
  have I5':=I5.pinned (stat fr5) (T.obj _ _ st5)
  refine wpAny_passesOwn hp (bR (hg _ s5 σ3 H5 x u _ I5' r5 (step x H5 y5)) fun _ s6 ⟨σ6,H6,I6,q6⟩=>?_)
  refine wpAny_passesOwn hp (bR (hb _ s6 σ6 H6 _ I6 q6) fun f s7 q7=>?_)
  have again:∀ {σ7:St} {H7:Hp},Inv X (pins++xX fp s5.heap) σ7 H7 s7->N σ7 H7->∃ m,m < n/\∃ i σ' H',Inv X pins σ' H' s7/\tn i s7.heap/\(∀ b∈fp,H' b=none)/\W i m σ' H':=fun {σ7 H7} I7 n7=>by
   obtain ⟨m',hm,w7⟩:=hN σ7 H7 n7
   refine ⟨m',hm,i + 1,σ7,H7,I7.unpinned,T.keep _ _ _ st5 fun b hb o e=>(I7.pin (b,o) (List.mem_append_right _ (List.mem_append_right _ (pM hb e)))).1,fun b hb=>?_,w7⟩
   obtain ⟨o,e,d⟩:=T.obj _ _ st5 b hb
   exact (I7.pin (b,o) (List.mem_append_right _ (List.mem_append_right _ (pM hb e)))).2.1
  cases f with
  | next=>obtain ⟨σ7,H7,I7,n7⟩:=q7;exact again I7 n7
  | cont=>obtain ⟨σ7,H7,I7,n7⟩:=q7;exact again I7 n7
  | brk=>obtain ⟨σ7,H7,I7,q7⟩:=q7;exact ⟨σ7,H7,I7.unpinned,q7⟩
  | ret v=>obtain ⟨x7,σ7,H7,I7,r7,q7⟩:=q7;exact ⟨x7,σ7,H7,I7.unpinned,r7,q7⟩
end
noncomputable abbrev R2:=V->V->Hp->VK->Prop
noncomputable def fE (X:Cx) (f:Value->Value->Sem Value) (r:R2):Prop :=
 ∀ (pins:List (Addr × Obj)) (s:Shared) (σ:St) (H:Hp) (x y:V) (v u:Value) (Q:VK),Inv X pins σ H s->RelV x v->RelV y u->r x y H Q ->
  wpAny (model X.prog X.w) X.A (f v u) (EP X pins σ Q) X.xe s
noncomputable def Q2 (X:Cx) (f:Value->Sem Value) (r:V->Hp->VK->Prop):Prop :=
 ∀ (pins:List (Addr × Obj)) (s:Shared) (σ:St) (H:Hp) (x:V) (v:Value) (Q:VK),Inv X pins σ H s->RelV x v->r x H Q ->
  wpAny (model X.prog X.w) X.A (f v) (EP X pins σ Q) X.xe s
noncomputable def h8 (X:Cx) (f:Value) (r:List V->Hp->VK->Prop):Prop :=
 ∀ (pins:List (Addr × Obj)) (s:Shared) (σ:St) (H:Hp) (xs:List V) (us:List Value) (Q:VK),Inv X pins σ H s->Vals xs us->r xs H Q ->
  wpAny (model X.prog X.w) X.A (call f us) (EP X pins σ Q) X.xe s
noncomputable def Tg (X:Cx) (r:V->Hp->(Bool->Hp->Prop)->Prop):Prop :=
 ∀ (pins:List (Addr × Obj)) (s:Shared) (σ:St) (H:Hp) (x:V) (v:Value) (Q:Bool->Hp->Prop),Inv X pins σ H s->RelV x v->r x H Q ->
  wpAny (model X.prog X.w) X.A (truthy v) (TP X pins σ Q) X.xe s
noncomputable def Gw (r:R2) (ta tb:TE):TE:=fun σ H Q=>ta σ H fun x H1=>tb σ H1 fun y H2=>r x y H2 Q
noncomputable def SQ (r:V->Hp->VK->Prop) (ta:TE):TE:=fun σ H Q=>ta σ H fun x H1=>r x H1 Q
noncomputable def rI (C:Int->Int->Prop) (g:Int->Int->V):R2:=fun x y H Q=>∃ i j,x=.int i/\y=.int j/\C i j/\Q (g i j) H
noncomputable def wH (g:Int->Int->V):R2:=fun x y H Q=>∃ i j,x=.int i/\y=.int j/\Q (g i j) H
noncomputable def rU (g:Int->V):V->Hp->VK->Prop:=fun x H Q=>∃ i,x=.int i/\Q (g i) H
section
variable {X:Cx} {a b c:Expr} {ta tb tc:TE} {pos:Pos}
theorem Mh (ha:PE X a ta) (hb:PE X b tb) {pins:List (Addr × Obj)} {s:Shared} {σ:St} {H:Hp} {R:V->V->Hp->Prop} (I:Inv X pins σ H s)
  (h:ta σ H fun x H1=>tb σ H1 fun y H2=>R x y H2) {Q:Value->Shared->Prop} {f:Value->Value->Sem Value}
  (hf:∀ v u s2 x y H2,Inv X pins σ H2 s2->RelV x v->RelV y u->R x y H2->wpAny (model X.prog X.w) X.A (f v u) Q X.xe s2) :
  wpAny (model X.prog X.w) X.A (eval a X.env) (fun v s₁=>wpAny (model X.prog X.w) X.A (eval b X.env) (fun u s₂=>wpAny (model X.prog X.w) X.A (f v u) Q X.xe s₂) X.xe s₁) X.xe s:=by
 refine bR (ha pins s σ H _ I h) fun v s1 ⟨x,H1,I1,r1,q1⟩=>?_
 refine bR (hb pins s1 σ H1 _ I1 q1) fun u s2 ⟨y,H2,I2,r2,q2⟩=>?_
 exact hf v u s2 x y H2 I2 r1 r2 q2
theorem Sd {op:Operator} {r:R2} (ho:fE X (binaryOp op) r) (ha:PE X a ta) (hb:PE X b tb):PE X (.BinOp a op b pos) (Gw r ta tb):=by
 intro pins s σ H Q I h
 exact wpAny_BinOp (Mh ha hb I h fun v u s2 x y H2 I2 rx ry q=>ho pins s2 σ H2 x y v u Q I2 rx ry q)
theorem Sk {op:UnaryOp} {r:V->Hp->VK->Prop} (ho:Q2 X (unaryOp op) r) (ha:PE X a ta):PE X (.UnaryOp op a pos) (SQ r ta):=by
 intro pins s σ H Q I h
 exact UnaryOp_ (bR (ha pins s σ H _ I h) fun v s1 ⟨x,H1,I1,r1,q1⟩=>ho pins s1 σ H1 x v Q I1 r1 q1)
theorem NI {f:Value->Value->Sem Value} {C:Int->Int->Prop} {g:Int->Int->Int}
  (rule:∀ (i j:Int) (t u:Tok) (s:Shared) (Q:Value->Shared->Prop) (E:Value->Shared->Prop),C i j->Q (.int (g i j) s.toks) { s with toks:=s.toks + 1 }->wpAny (model X.prog X.w) X.A (f (.int i t) (.int j u)) Q E s) :
  fE X f (rI C fun i j=>.int (g i j)):=by
 intro pins s σ H x y v u Q I rx ry h
 obtain ⟨i,j,rfl,rfl,hc,q⟩:=h
 obtain ⟨t,rfl⟩:=rx
 obtain ⟨t',rfl⟩:=ry
 exact rule i j t t' s _ _ hc ⟨.int (g i j),H,I.tok _,⟨_,rfl⟩,q⟩
theorem RI {f:Value->Value->Sem Value} {g:Int->Int->Int}
  (rule:∀ (i j:Int) (t u:Tok) (s:Shared) (Q:Value->Shared->Prop) (E:Value->Shared->Prop),Q (.int (g i j) s.toks) { s with toks:=s.toks + 1 }->wpAny (model X.prog X.w) X.A (f (.int i t) (.int j u)) Q E s) :
  fE X f (wH fun i j=>.int (g i j)):=by
 intro pins s σ H x y v u Q I rx ry h
 obtain ⟨i,j,rfl,rfl,q⟩:=h
 obtain ⟨t,rfl⟩:=rx
 obtain ⟨t',rfl⟩:=ry
 exact rule i j t t' s _ _ ⟨.int (g i j),H,I.tok _,⟨_,rfl⟩,q⟩
theorem HB {f:Value->Value->Sem Value} {g:Int->Int->Bool}
  (rule:∀ (i j:Int) (t u:Tok) (s:Shared) (Q:Value->Shared->Prop) (E:Value->Shared->Prop),Q (.bool (g i j)) s->wpAny (model X.prog X.w) X.A (f (.int i t) (.int j u)) Q E s) :
  fE X f (wH fun i j=>.bl (g i j)):=by
 intro pins s σ H x y v u Q I rx ry h
 obtain ⟨i,j,rfl,rfl,q⟩:=h
 obtain ⟨t,rfl⟩:=rx
 obtain ⟨t',rfl⟩:=ry
 exact rule i j t t' s _ _ ⟨.bl (g i j),H,I,rfl,q⟩
noncomputable def D6 (i j:Int):Prop:=0<=j/\j<=1000000/\i.natAbs < 2 ^ 64
noncomputable def Lo (i j:Int):Prop:=(-(2 ^ 64) < i/\i < 2 ^ 64)\/(-(2 ^ 64) < j/\j < 2 ^ 64)
theorem Lo.ok {i j:Int} (h:Lo i j):IntMulOk i j:=by
 rcases h with ⟨h1,h2⟩ | ⟨h1,h2⟩
 ·exact .of_left (intBits_le_64 h1 h2)
 ·exact .of_right (intBits_le_64 h1 h2)
theorem Sa (k:Nat):(0:Int)<=2 ^ k:=by
 rw [two_pow_cast]
 exact Int.natCast_nonneg _
theorem Rm:fE X (binaryOp .Add) (wH fun i j=>.int (i + j)):=RI fun _ _ _ _ _ _ _ q=>add_int q
theorem Qe:fE X (binaryOp .Sub) (wH fun i j=>.int (i - j)):=RI fun _ _ _ _ _ _ _ q=>sub_int q
theorem Q3:fE X (binaryOp .Mod) (rI (fun _ j=>0 < j) fun i j=>.int (i % j)):=NI fun i j _ _ _ _ _ hc q=>by
 have h1:(0:Int) < j:=hc
 exact mod_int' (by omega) (by rw [Int.fmod_eq_emod_of_nonneg i (by omega)];exact q)
theorem QC:fE X (binaryOp .Pow) (rI D6 fun i j=>.int (i ^ j.toNat)):=NI fun _ _ _ _ _ _ _ hc q=>pow_int_small hc.1 hc.2.1 hc.2.2 q
theorem Tn {f:Value->Sem Value} {g:Int->Int}
  (rule:∀ (i:Int) (t:Tok) (s:Shared) (Q:Value->Shared->Prop) (E:Value->Shared->Prop),Q (.int (g i) s.toks) { s with toks:=s.toks + 1 }->wpAny (model X.prog X.w) X.A (f (.int i t)) Q E s) :
  Q2 X f (rU fun i=>.int (g i)):=by
 intro pins s σ H x v Q I rx h
 obtain ⟨i,rfl,q⟩:=h
 obtain ⟨t,rfl⟩:=rx
 exact rule i t s _ _ ⟨.int (g i),H,I.tok _,⟨_,rfl⟩,q⟩
theorem RD:Q2 X (unaryOp .USub) (rU fun i=>.int (-i)):=Tn fun _ _ _ _ _ q=>neg_int q
end
noncomputable def HU:V->V->Bool
 | .non,.non=>true | .non,.int _=>true | .int _,.non=>true | .non,.bl _=>true | .bl _,.non=>true | .non,.str _=>true | .str _,.non=>true
 | .int _,.int _=>true | .bl _,.bl _=>true | .str _,.str _=>true | .byt _,.byt _=>true
 | .int _,.str _=>true | .str _,.int _=>true | .bl _,.str _=>true | .str _,.bl _=>true
 | _,_=>false
noncomputable def Tv:R2:=fun x y H Q=>HU x y=true/\Q (.bl (decide (x=y))) H
noncomputable def Tx:R2:=fun x y H Q=>HU x y=true/\Q (.bl (!decide (x=y))) H
theorem FQ {i j:Int}:decide (V.int i=V.int j)=(i == j):=by
 rw [Bool.eq_iff_iff]
 simp
theorem KN {i j:Bool}:decide (V.bl i=V.bl j)=(i == j):=by
 rw [Bool.eq_iff_iff]
 simp
theorem FR {i j:Str}:decide (V.str i=V.str j)=(i == j):=by
 rw [Bool.eq_iff_iff]
 simp
theorem Gn {i j:Array UInt8}:decide (V.byt i=V.byt j)=(i.toList == j.toList):=by
 rw [Bool.eq_iff_iff]
 cases i
 cases j
 simp
section
variable {X:Cx} {a b c:Expr} {ta tb tc:TE} {pos:Pos}
theorem cZ {pins:List (Addr × Obj)} {σ:St} {H:Hp} {s:Shared} {Q:VK} {k k':Bool} (I:Inv X pins σ H s) (q:Q (.bl k) H) (e:k=k'):EP X pins σ Q (.bool k') s:=by
 subst e
 exact ⟨.bl k,H,I,rfl,q⟩
theorem Sr:fE X (compareOp .Eq) Tv:=by
 intro pins s σ H x y v u Q I rx ry h
 obtain ⟨hs,q⟩:=h
 cases x with
 | non =>
  cases rx
  cases y with
  | non=>cases ry;exact PySem.EqNone.eq_none_none (cZ I q (by simp))
  | bl j=>cases ry;exact PySem.EqNone.eq_none_bool (cZ I q (by simp))
  | int j=>obtain ⟨t',rfl⟩:=ry;exact PySem.EqNone.eq_none_int (cZ I q (by simp))
  | str j=>obtain ⟨t',rfl⟩:=ry;exact PySem.EqNone.eq_none_str (cZ I q (by simp))
  | _=>exact absurd (show false=true from hs) Bool.false_ne_true
 | bl i =>
  cases rx
  cases y with
  | non=>cases ry;exact PySem.EqNone.eq_bool_none (cZ I q (by simp))
  | bl j=>cases ry;exact eq_bool (cZ I q KN)
  | str j=>obtain ⟨t',rfl⟩:=ry;exact PySem.EqMixed.eq_bool_str (cZ I q (by simp))
  | _=>exact absurd (show false=true from hs) Bool.false_ne_true
 | int i =>
  obtain ⟨t,rfl⟩:=rx
  cases y with
  | non=>cases ry;exact PySem.EqNone.eq_int_none (cZ I q (by simp))
  | int j=>obtain ⟨t',rfl⟩:=ry;exact eq_int (cZ I q FQ)
  | str j=>obtain ⟨t',rfl⟩:=ry;exact PySem.EqMixed.eq_int_str (cZ I q (by simp))
  | _=>exact absurd (show false=true from hs) Bool.false_ne_true
 | str i =>
  obtain ⟨t,rfl⟩:=rx
  cases y with
  | non=>cases ry;exact PySem.EqNone.eq_str_none (cZ I q (by simp))
  | bl j=>cases ry;exact PySem.EqMixed.eq_str_bool (cZ I q (by simp))
  | int j=>obtain ⟨t',rfl⟩:=ry;exact PySem.EqMixed.eq_str_int (cZ I q (by simp))
  | str j=>obtain ⟨t',rfl⟩:=ry;exact eq_str (cZ I q FR)
  | _=>exact absurd (show false=true from hs) Bool.false_ne_true
 | byt i =>
  obtain ⟨t,rfl⟩:=rx
  cases y with
  | byt j=>obtain ⟨t',rfl⟩:=ry;exact PySem.W.eq_bytes (cZ I q Gn)
  | _=>exact absurd (show false=true from hs) Bool.false_ne_true
 | _=>cases y <;> exact absurd (show false=true from hs) Bool.false_ne_true
theorem R6:fE X (compareOp .NotEq) Tx:=by
 intro pins s σ H x y v u Q I rx ry h
 obtain ⟨hs,q⟩:=h
 cases x with
 | non =>
  cases rx
  cases y with
  | non=>cases ry;exact PySem.EqNone.ne_none_none (cZ I q (by simp))
  | bl j=>cases ry;exact PySem.EqNone.ne_none_bool (cZ I q (by simp))
  | int j=>obtain ⟨t',rfl⟩:=ry;exact PySem.EqNone.ne_none_int (cZ I q (by simp))
  | str j=>obtain ⟨t',rfl⟩:=ry;exact PySem.EqNone.ne_none_str (cZ I q (by simp))
  | _=>exact absurd (show false=true from hs) Bool.false_ne_true
 | bl i =>
  cases rx
  cases y with
  | non=>cases ry;exact PySem.EqNone.ne_bool_none (cZ I q (by simp))
  | bl j=>cases ry;exact ne_bool (cZ I q (congrArg not KN))
  | str j=>obtain ⟨t',rfl⟩:=ry;exact PySem.EqMixed.ne_bool_str (cZ I q (by simp))
  | _=>exact absurd (show false=true from hs) Bool.false_ne_true
 | int i =>
  obtain ⟨t,rfl⟩:=rx
  cases y with
  | non=>cases ry;exact PySem.EqNone.ne_int_none (cZ I q (by simp))
  | int j=>obtain ⟨t',rfl⟩:=ry;exact ne_int (cZ I q (congrArg not FQ))
  | str j=>obtain ⟨t',rfl⟩:=ry;exact PySem.EqMixed.ne_int_str (cZ I q (by simp))
  | _=>exact absurd (show false=true from hs) Bool.false_ne_true
 | str i =>
  obtain ⟨t,rfl⟩:=rx
  cases y with
  | non=>cases ry;exact PySem.EqNone.ne_str_none (cZ I q (by simp))
  | bl j=>cases ry;exact PySem.EqMixed.ne_str_bool (cZ I q (by simp))
  | int j=>obtain ⟨t',rfl⟩:=ry;exact PySem.EqMixed.ne_str_int (cZ I q (by simp))
  | str j=>obtain ⟨t',rfl⟩:=ry;exact ne_str (cZ I q (congrArg not FR))
  | _=>exact absurd (show false=true from hs) Bool.false_ne_true
 | byt i =>
  obtain ⟨t,rfl⟩:=rx
  cases y with
  | byt j=>obtain ⟨t',rfl⟩:=ry;exact PySem.W.ne_bytes (cZ I q (congrArg not Gn))
  | _=>exact absurd (show false=true from hs) Bool.false_ne_true
 | _=>cases y <;> exact absurd (show false=true from hs) Bool.false_ne_true
theorem R8:fE X (compareOp .Lt) (wH fun i j=>.bl (decide (i < j))):=HB fun _ _ _ _ _ _ _ q=>lt_int q
theorem SA:fE X (compareOp .LtE) (wH fun i j=>.bl (decide (i<=j))):=HB fun _ _ _ _ _ _ _ q=>le_int q
theorem Sf:fE X (compareOp .Gt) (wH fun i j=>.bl (decide (j < i))):=HB fun _ _ _ _ _ _ _ q=>gt_int q
theorem Sm:fE X (compareOp .GtE) (wH fun i j=>.bl (decide (j<=i))):=HB fun _ _ _ _ _ _ _ q=>ge_int q
theorem fE.or {f:Value->Value->Sem Value} {r r':R2} (h:fE X f r) (h':fE X f r'):fE X f (fun x y H Q=>r x y H Q\/r' x y H Q):=by
 intro pins s σ H x y v u Q I rx ry q
 rcases q with q | q
 ·exact h pins s σ H x y v u Q I rx ry q
 ·exact h' pins s σ H x y v u Q I rx ry q
theorem JV (b:Expr) {op:CmpOp} (h:op≠.In:=by decide) (h2:op≠.NotIn:=by decide):behindInMarks op b=false:=by
 have e1:(op == CmpOp.In)=false:=by cases op <;> first | rfl | exact absurd rfl h
 have e2:(op == CmpOp.NotIn)=false:=by cases op <;> first | rfl | exact absurd rfl h2
 cases b <;> simp [behindInMarks,e1,e2]
theorem O9 {op:CmpOp} {r:R2} (ho:fE X (compareOp op) r) (ha:PE X a ta) (hb:PE X b tb) (hm:behindInMarks op b=false):PE X (.Compare a [op] [b] pos) (Gw r ta tb):=by
 intro pins s σ H Q I h
 exact wpAny_Compare1 (Mh ha hb I h fun v u s2 x y H2 I2 rx ry q=>ho pins s2 σ H2 x y v u Q I2 rx ry q) hm
noncomputable def Nu (t:TE):TT:=fun σ H Q=>t σ H fun x H'=>∃ k,x=.bl k/\Q k H'
theorem PK {op:CmpOp} {r:R2} (ho:fE X (compareOp op) r) (ha:PE X a ta) (hb:PE X b tb) (hm:behindInMarks op b=false):PT X (.Compare a [op] [b] pos) (Nu (Gw r ta tb)):=by
 intro pins s σ H Q I h
 refine wpAny_isTrue_Compare1 (bR (ha pins s σ H _ I h) fun v s1 ⟨x,H1,I1,r1,q1⟩=>bR (hb pins s1 σ H1 _ I1 q1) fun u s2 ⟨y,H2,I2,r2,q2⟩ =>
  bR (ho pins s2 σ H2 x y v u _ I2 r1 r2 q2) fun c s3 ⟨z,H3,I3,r3,k,e,q3⟩=>?_) hm
 subst e
 cases r3
 exact wpAny_truthy_bool ⟨H3,I3,q3⟩
noncomputable def Lb (r r':R2) (ta tb tc:TE):TE:=fun σ H Q=>ta σ H fun x H1=>tb σ H1 fun y H2=>r x y H2 fun z H3=>∃ k,z=.bl k /\
 (if k=true then tc σ H3 fun w' H4=>r' y w' H4 Q else Q (.bl false) H3)
theorem LV {op op':CmpOp} {r r':R2} (ho:fE X (compareOp op) r) (ho':fE X (compareOp op') r') (ha:PE X a ta) (hb:PE X b tb) (hc:PE X c tc)
  (hm:lastMarks [op,op'] [b,c]=false:=by with_unfolding_all rfl):PE X (.Compare a [op,op'] [b,c] pos) (Lb r r' ta tb tc):=by
 intro pins s σ H Q I h
 refine Compare_chain (bR (ha pins s σ H _ I h) fun v s1 ⟨x,H1,I1,r1,q1⟩=>chain_link (bR (hb pins s1 σ H1 _ I1 q1) fun u s2 ⟨y,H2,I2,r2,q2⟩ =>
  bR (ho pins s2 σ H2 x y v u _ I2 r1 r2 q2) fun d s3 ⟨z,H3,I3,r3,k,e,q3⟩=>?_)) hm
 subst e
 cases r3
 refine wpAny_truthy_bool ?_
 cases k with
 | false=>exact ite_ff ⟨.bl false,H3,I3,rfl,q3⟩
 | true=>exact ite_tt (chain_last (bR (hc pins s3 σ H3 _ I3 q3) fun w' s4 ⟨z',H4,I4,r4,q4⟩=>ho' pins s4 σ H4 y z' u w' Q I4 r2 r4 q4))
noncomputable def MQ (K:PySem.W.Frag) (x:V) (H:Hp) (k:Bool):Prop :=
 match x with
 | .non=>k=false
 | .bl b=>k=b
 | .int i=>k=(i != 0)
 | .str y=>y.length<=sizeLine/\k=((y.length:Int) != 0)
 | .byt y=>y.size<=sizeLine/\k=((y.size:Int) != 0)
 | .ref p=>(∃ xs,eT K H p xs/\k=!xs.isEmpty)\/(∃ xs,iO K H p xs/\k=!xs.isEmpty)\/∃ kvs,H p=some (.dK kvs)/\k=!kvs.isEmpty
 | _=>False
theorem Ie {κ:Type} {kvs:List (κ × V)} {vs:List (κ × Value)} (r:KV kvs vs):(!vs.isEmpty)=!kvs.isEmpty:=by
 cases r <;> rfl
theorem Au {xs:List V} {its:List Value} (r:Vals xs its):(!its.toArray.isEmpty)=!xs.isEmpty:=by
 cases r <;> simp
theorem xD:(sizeLine:Nat) < 2 ^ 63:=by rw [sizeLine_eq];decide
theorem RM:Tg X (fun x H Q=>∃ k,MQ X.K x H k/\Q k H):=by
 intro pins s σ H x v Q I rx h
 obtain ⟨k,e,q⟩:=h
 have hl:=xD
 have hs:sizeLine=16777216:=sizeLine_eq
 cases x with
 | non =>
  cases rx
  have e':k=false:=e
  subst e'
  exact truthy_none ⟨H,I,q⟩
 | bl b =>
  cases rx
  have e':k=b:=e
  subst e'
  exact wpAny_truthy_bool ⟨H,I,q⟩
 | int i =>
  obtain ⟨t,rfl⟩:=rx
  have e':k=(i != 0):=e
  subst e'
  exact PySem.P.truthy_int ⟨H,I,q⟩
 | str y =>
  obtain ⟨t,rfl⟩:=rx
  obtain ⟨hy,e'⟩:y.length<=sizeLine/\k=((y.length:Int) != 0):=e
  subst e'
  exact PySem.P.truthy_str (by omega) ⟨H,I.tok _,q⟩
 | byt y =>
  obtain ⟨t,rfl⟩:=rx
  obtain ⟨hy,e'⟩:y.size<=sizeLine/\k=((y.size:Int) != 0):=e
  subst e'
  exact PySem.W.truthy_bytes (by omega) ⟨H,I.tok _,q⟩
 | ref p =>
  cases rx
  have e':(∃ xs,eT X.K H p xs/\k=!xs.isEmpty)\/(∃ xs,iO X.K H p xs/\k=!xs.isEmpty)\/∃ kvs,H p=some (.dK kvs)/\k=!kvs.isEmpty:=e
  rcases e' with ⟨xs,hx,e'⟩ | ⟨xs,hx,e'⟩ | ⟨kvs,hx,e'⟩
  ·subst e'
   obtain ⟨its,r,pl,hz⟩:=I.list hx
   have hlen:=r.length
   exact wpAny_truthy_list pl.isList (by simp only [List.size_toArray];omega) ⟨H,I.tok _,by rw [Au r];exact q⟩
  ·subst e'
   obtain ⟨its,r,pl,hz⟩:=I.tuple hx
   have hlen:=r.length
   exact truthy_tuple pl (by simp only [List.size_toArray];omega) ⟨H,I.tok _,by rw [Au r];exact q⟩
  ·subst e'
   obtain ⟨hz,hS,vs,r,m⟩:kvs.length<=sizeLine/\(p == sysModules)=false/\∃ vs,KV kvs vs/\s.heap.DictOf (dS X.prog X.w) p vs:=I.hok p _ hx
   have hlen:kvs.length=vs.length:=Paired.length r
   exact wpAny_truthy_dict hS m (by omega) ⟨H,I.tok _,by rw [Ie r];exact q⟩
 | _=>exact (show False from e).elim
theorem LD (ha:PE X a ta) (he:∀ whole,isTrue a X.env whole=(do let v <- whole;standAt a.pos;holding [v] (truthy v))) :
  PT X a (fun σ H Q=>ta σ H fun x H'=>∃ k,MQ X.K x H' k/\Q k H'):=by
 intro pins s σ H Q I h
 exact isTrue_plain (bR (ha pins s σ H _ I h) fun v s1 ⟨x,H1,I1,r1,q1⟩=>RM pins s1 σ H1 x v Q I1 r1 q1) (he _)
theorem Hf:fE X (binaryOp .Add) (fun x y H Q=>∃ i j,x=.str i/\y=.str j/\i.length + j.length<=sizeLine/\Q (.str (i++j)) H):=by
 intro pins s σ H x y v u Q I rx ry h
 obtain ⟨i,j,rfl,rfl,hz,q⟩:=h
 obtain ⟨t,rfl⟩:=rx
 obtain ⟨t',rfl⟩:=ry
 exact add_str (fun t' tk=>⟨.str (i++j),H,I.tok _,⟨_,rfl⟩,q⟩) hz
theorem vals1 {x:V} {us:List Value} (r:Vals [x] us):∃ u,us=[u]/\RelV x u:=by
 cases r with
 | cons r1 r2=>cases r2;exact ⟨_,rfl,r1⟩
theorem vals2 {x y:V} {us:List Value} (r:Vals [x,y] us):∃ u w',us=[u,w']/\RelV x u/\RelV y w':=by
 cases r with
 | cons r1 r2 =>
  cases r2 with
  | cons r3 r4=>cases r4;exact ⟨_,_,rfl,r1,r3⟩
theorem Mv:h8 X (.builtin "abs") (fun xs H Q=>∃ i,xs=[.int i]/\Q (.int (if i < 0 then -i else i)) H):=by
 intro pins s σ H xs us Q I r h
 obtain ⟨i,rfl,q⟩:=h
 obtain ⟨u,rfl,t,rfl⟩:=vals1 r
 exact call_abs_int fun u tk=>⟨.int (if i < 0 then -i else i),H,I.tok _,⟨_,rfl⟩,q⟩
theorem K0 (hc:X.calm=true):h8 X (.builtin "max") (fun xs H Q=>∃ i j,xs=[.int i,.int j]/\Q (.int (if j > i then j else i)) H):=by
 intro pins s σ H xs us Q I r h
 obtain ⟨i,j,rfl,q⟩:=h
 obtain ⟨u,w',rfl,⟨t,rfl⟩,⟨t',rfl⟩⟩:=vals2 r
 refine max_two_ints (I.ok.hd hc) fun h' tk k=>⟨_,H,I.kept k,?_,q⟩
 by_cases hj:j > i
 ·rw [if_pos hj,if_pos hj];exact ⟨_,rfl⟩
 ·rw [if_neg hj,if_neg hj];exact ⟨_,rfl⟩
theorem J4 (hc:X.calm=true):h8 X (.builtin "min") (fun xs H Q=>∃ i j,xs=[.int i,.int j]/\Q (.int (if j < i then j else i)) H):=by
 intro pins s σ H xs us Q I r h
 obtain ⟨i,j,rfl,q⟩:=h
 obtain ⟨u,w',rfl,⟨t,rfl⟩,⟨t',rfl⟩⟩:=vals2 r
 refine min_two_ints (I.ok.hd hc) fun h' tk k=>⟨_,H,I.kept k,?_,q⟩
 by_cases hj:j < i
 ·rw [if_pos hj,if_pos hj];exact ⟨_,rfl⟩
 ·rw [if_neg hj,if_neg hj];exact ⟨_,rfl⟩
theorem K5:h8 X (.type "int") (fun xs H Q=>(∃ i,xs=[.int i]/\Q (.int i) H)\/∃ k,xs=[.bl k]/\Q (.int (if k then 1 else 0)) H):=by
 intro pins s σ H xs us Q I r h
 rcases h with ⟨i,rfl,q⟩ | ⟨k,rfl,q⟩
 ·obtain ⟨u,rfl,t,rfl⟩:=vals1 r
  exact call_int_int ⟨.int i,H,I,⟨_,rfl⟩,q⟩
 ·obtain ⟨u,rfl,r1⟩:=vals1 r
  cases r1
  exact call_int_bool ⟨.int (if k then 1 else 0),H,I.tok _,⟨_,rfl⟩,q⟩
noncomputable def RL (K:PySem.W.Frag) (x:V) (H:Hp) (n:Nat):Prop :=
 match x with
 | .str y=>y.length<=sizeLine/\n=y.length
 | .byt y=>y.size<=sizeLine/\n=y.size
 | .ref p=>(∃ xs,eT K H p xs/\n=xs.length)\/∃ xs,iO K H p xs/\n=xs.length
 | _=>False
theorem Ml:h8 X (.builtin "len") (fun xs H Q=>∃ x n,xs=[x]/\RL X.K x H n/\Q (.int n) H):=by
 intro pins s σ H xs us Q I r h
 obtain ⟨x,n,rfl,e,q⟩:=h
 obtain ⟨u,rfl,rx⟩:=vals1 r
 have hl:=xD
 have hs:sizeLine=16777216:=sizeLine_eq
 cases x with
 | str y =>
  obtain ⟨t,rfl⟩:=rx
  obtain ⟨hy,e'⟩:y.length<=sizeLine/\n=y.length:=e
  subst e'
  exact len_str (by omega) ⟨.int _,H,I.tok _,⟨_,rfl⟩,q⟩
 | byt y =>
  obtain ⟨t,rfl⟩:=rx
  obtain ⟨hy,e'⟩:y.size<=sizeLine/\n=y.size:=e
  subst e'
  exact PySem.W.len_bytes (by omega) ⟨.int _,H,I.tok _,⟨_,rfl⟩,q⟩
 | ref p =>
  cases rx
  have e':(∃ xs,eT X.K H p xs/\n=xs.length)\/∃ xs,iO X.K H p xs/\n=xs.length:=e
  rcases e' with ⟨xs,hx,e'⟩ | ⟨xs,hx,e'⟩
  ·subst e'
   obtain ⟨its,r',pl,hz⟩:=I.list hx
   have hlen:=r'.length
   exact Calls.call_len_list pl.isList (by simp only [List.size_toArray];omega) ⟨.int xs.length,H,I.tok _,⟨_,by simp only [List.size_toArray];rw [hlen]⟩,q⟩
  ·subst e'
   obtain ⟨its,r',pl,hz⟩:=I.tuple hx
   have hlen:=r'.length
   exact len_tuple pl (by simp only [List.size_toArray];omega) ⟨.int xs.length,H,I.tok _,⟨_,by simp only [List.size_toArray];rw [hlen]⟩,q⟩
 | _=>exact (show False from e).elim
end
structure LM (h:Heap) (x dx C:Addr) (mA:Str->Option Value):Prop where
 obj:h.get? x=some (PySem.W.instObj C dx)
 ns:h.Ns1 dx mA
 ne:dx≠x
theorem Jj {h:Heap} {dx:Addr} {mA:Str->Option Value} (n:h.Ns1 dx mA):∃ od,h.get? dx=some od/\∀ name,PySem.W.lookIn name od=some (mA name):=by
 obtain ⟨o,es,ep,ho,hd,hk,_,hm⟩:=n
 refine ⟨o,ho,fun name=>?_⟩
 have e:=hm name
 unfold nsFind findBy at e
 rw [<- Array.find?_toList] at e
 unfold PySem.W.lookIn
 rw [hd]
 dsimp only
 split
 ·rename_i y q
  rw [q] at e
  exact congrArg some e
 ·rename_i q
  rw [q] at e
  have a:es.toList.any (·.refKey)=false:=by
   rw [List.any_eq_false]
   intro y hy
   obtain ⟨z,t,hkey⟩:=hk y (Array.mem_toList_iff.mp hy)
   simp [DictEntry.refKey,hkey]
  have a':¬ es.toList.any (·.refKey)=true:=by rw [a];exact Bool.false_ne_true
  rw [if_neg a']
  exact congrArg some e
theorem LM.look {h:Heap} {x dx C:Addr} {mA:Str->Option Value} (I:LM h x dx C mA):∃ od,PySem.W.InstAt h x (PySem.W.instObj C dx) C (some od)/\∀ name,PySem.W.lookIn name od=some (mA name) :=
 let ⟨od,ho,hl⟩:=Jj I.ns
 ⟨od,⟨I.obj,rfl,rfl,ho⟩,hl⟩
section
variable {prog:Program} {w:World} {A:Around} {E:Value->Shared->Prop} {s:Shared} {K:PySem.W.Frag} {x dx C f:Addr} {mA:Str->Option Value} {name:Str} {v:Value}
end
noncomputable def IF (f:Str) (v:V):List (Str × V)->List (Str × V)
 | []=>[(f,v)]
 | (g,x) :: r=>if g=f then (g,v) :: r else (g,x) :: IF f v r
theorem Fq (f g:Str) (v:V):∀ fs:List (Str × V),(IF f v fs).lookup g=if g=f then some v else fs.lookup g
 | []=>by
  show List.lookup g [(f,v)]=_
  by_cases h:g=f
  ·have hb:(g == f)=true:=beq_iff_eq.mpr h
   simp only [List.lookup,hb,if_pos h]
  ·have hb:(g == f)=false:=beq_eq_false_iff_ne.mpr h
   simp only [List.lookup,hb,if_neg h]
 | (k,x) :: r=>by
  have ih:=Fq f g v r
  rw [show IF f v ((k,x) :: r)=(if k=f then (k,v) :: r else (k,x) :: IF f v r) from rfl]
  by_cases hk:k=f
  ·rw [if_pos hk]
   by_cases h:g=k
   ·have hb:(g == k)=true:=beq_iff_eq.mpr h
    simp only [List.lookup,hb,if_pos (h.trans hk)]
   ·have hb:(g == k)=false:=beq_eq_false_iff_ne.mpr h
    simp only [List.lookup,hb,if_neg (fun e:g=f=>h (e.trans hk.symm))]
  ·rw [if_neg hk]
   by_cases h:g=k
   ·have hb:(g == k)=true:=beq_iff_eq.mpr h
    simp only [List.lookup,hb,if_neg (fun e:g=f=>hk (h.symm.trans e))]
   ·have hb:(g == k)=false:=beq_eq_false_iff_ne.mpr h
    simp only [List.lookup,hb]
    exact ih
theorem nO.some_of {v:V} {o:Option Value} (r:nO (some v) o):∃ u,o=some u/\RelV v u:=by
 cases o with
 | none=>exact (show False from r).elim
 | some u=>exact ⟨u,rfl,r⟩
section
variable {P:Program} {w:World} {H H':Hp} {h h':Heap} {a C dx:Addr} {fs fs':List (Str × V)}
theorem PR (hok:iU P w H h) (e:H a=some (.ins C dx fs)):∃ mA,LM h a dx C mA/\(∀ f,nO (fs.lookup f) (mA f))/\PySem.Within mA (fs.map (·.1))/\fs.length<=1000/\H dx=some (.own a):=by
 obtain ⟨d,z,ne,ob,mA,n,r,q⟩:=(show c6 P w H h a (.ins C dx fs) from hok a _ e)
 exact ⟨mA,⟨ob,n,ne⟩,r,q,z,d⟩
end
structure Rw (K:PySem.W.Frag) (C:Addr):Prop where
 pg:PySem.W.plainGet K C Str.empty=true
 hd:PySem.W.hasDictIn K C=true
 po:PySem.W.plainOver K C=true
 sa:PySem.W.findIn K (.ref C) "__setattr__"=some (some (.builtin "object.__setattr__"))
theorem Rw.get {K:PySem.W.Frag} {C:Addr} (c:Rw K C) (f:Str):PySem.W.plainGet K C f=true:=c.pg
section
variable {X:Cx} {pins:List (Addr × Obj)} {σ:St} {H:Hp} {s:Shared} {a C dx:Addr} {fs:List (Str × V)} {f:Str} {v:V} {A:Around} {E:Value->Shared->Prop}
end
section
variable {X:Cx} {o e value:Expr} {f:Str} {pos pos' tpos:Pos} {ta tv:TE}
end
section
variable {X:Cx} {pins:List (Addr × Obj)} {σ:St} {H:Hp} {s:Shared} {A:Around} {E:Value->Shared->Prop} {Q:Value->Shared->Prop} {c:Value} {b:Bool}
inductive nE (K:PySem.W.Frag) (H:Hp):V->Value->Prop where
 | non:nE K H .non (.type "NoneType")
 | bl (x:Bool):nE K H (.bl x) (.type "bool")
 | int (i:Int):nE K H (.int i) (.type "int")
 | str (x:Str):nE K H (.str x) (.type "str")
 | flt (x:UInt64):nE K H (.flt x) (.type "float")
 | lst {a:Addr} {xs:List V} (e:H a=some (.lst xs)):nE K H (.ref a) (.type "list")
 | frz {a:Addr} {o:Obj} {xs:List V} (e:H a=some (.frz o (.lst xs))):nE K H (.ref a) (.type "list")
 | tup {a:Addr} {xs:List V} (e:H a=some (.tup xs)):nE K H (.ref a) (.type "tuple")
 | dK {a:Addr} {kvs:List (Key × V)} (e:H a=some (.dK kvs)):nE K H (.ref a) (.type "dict")
 | dT {a:Addr} {kvs:List (List Key × V)} (e:H a=some (.dT kvs)):nE K H (.ref a) (.type "dict")
 | ins {a C dx:Addr} {fs:List (Str × V)} (e:H a=some (.ins C dx fs)) (cl:Rw K C) (ha:PySem.W.findIn K (.ref C) "__class__"=some (some (.builtin "object.__class__")))
   (hn:PySem.W.specialIn K (.builtin "object.__class__") "__get__"=some (some (.builtin "getset_descriptor.__get__"))) (htk:PySem.W.takesIn K (.builtin "object.__class__")=some true)
   (hm:PySem.W.mroIn K C (.type "object")=some true):nE K H (.ref a) (.ref C)
theorem KW {x:V} {u t:Value} (I:Inv X pins σ H s) (rx:RelV x u) (ty:nE X.K H x t) (e:PySem.W.kitOne X.K t c=some b) (h:∀ tk,Q (.bool b) { s with toks:=tk }) :
  wpAny (model X.prog X.w) A (call (.builtin "isinstance") [u,c]) Q E s:=by
 cases ty with
 | non=>cases (show u=Value.none from rx);exact PySem.W.kia_one PySem.W.kitx_none I.kIn True.intro e (fun z=>nomatch z) h
 | bl y=>cases (show u=Value.bool y from rx);exact PySem.W.kia_one PySem.W.kitx_bool I.kIn True.intro e (fun z=>nomatch z) h
 | int i=>obtain ⟨t,q⟩:=(show ∃ t,u=Value.int i t from rx);cases q;exact PySem.W.kia_one PySem.W.kitx_int I.kIn True.intro e (fun z=>nomatch z) h
 | str y=>obtain ⟨t,q⟩:=(show ∃ t,u=Value.str y t from rx);cases q;exact PySem.W.kia_one PySem.W.kitx_str I.kIn True.intro e (fun z=>nomatch z) h
 | flt y=>obtain ⟨t,q⟩:=(show ∃ t,u=Value.float y t from rx);cases q;exact PySem.W.kia_one PySem.W.kitx_float I.kIn True.intro e (fun z=>nomatch z) h
 | @lst a xs ea =>
  cases (show u=Value.ref a from rx)
  obtain ⟨_,_,n,_,h1⟩:=(show c6 X.prog X.w H s.heap a (.lst xs) from I.hok a _ ea)
  exact PySem.W.kia_one PySem.W.kitx_list I.kIn ⟨_,h1,rfl⟩ e (fun z=>nomatch z) h
 | @frz a ob xs ea =>
  cases (show u=Value.ref a from rx)
  obtain ⟨_,_,_,n,_,h1⟩:=(show c6 X.prog X.w H s.heap a (.frz ob (.lst xs)) from I.hok a _ ea)
  exact PySem.W.kia_one PySem.W.kitx_list I.kIn ⟨_,h1,rfl⟩ e (fun z=>nomatch z) h
 | @tup a xs ea =>
  cases (show u=Value.ref a from rx)
  obtain ⟨_,_,_,p⟩:=(show c6 X.prog X.w H s.heap a (.tup xs) from I.hok a _ ea)
  obtain ⟨o,h1,h2,_⟩:=p
  exact PySem.W.kia_one PySem.W.kitx_tuple I.kIn ⟨o,h1,h2⟩ e (fun z=>nomatch z) h
 | @dK a kvs ea =>
  cases (show u=Value.ref a from rx)
  obtain ⟨_,_,vs,_,p⟩:=(show c6 X.prog X.w H s.heap a (.dK kvs) from I.hok a _ ea)
  obtain ⟨o,es,ep,h1,h2,_⟩:=p
  exact PySem.W.kia_one PySem.W.kitx_dict I.kIn ⟨o,h1,h2.1⟩ e (fun z=>nomatch z) h
 | @dT a kvs ea =>
  cases (show u=Value.ref a from rx)
  obtain ⟨_,_,xs,_,o,es,ep,h1,h2,_⟩:=(show c6 X.prog X.w H s.heap a (.dT kvs) from I.hok a _ ea)
  exact PySem.W.kia_one PySem.W.kitx_dict I.kIn ⟨o,h1,h2.1⟩ e (fun z=>nomatch z) h
 | @ins a C dx fs ea cl ha hn htk hm =>
  cases (show u=Value.ref a from rx)
  obtain ⟨mA,O,_⟩:=PR I.hok ea
  obtain ⟨od,J,_⟩:=O.look
  exact PySem.W.kia_one (PySem.W.kitx_own (cl.get _) cl.hd ha hn htk hm) I.kIn J e (fun z=>nomatch z) h
end
structure iT (k:Nat) (A:Around):Prop where
 hd:A.handled=none
 dp:A.depth + 3 * k + 5 < recursionLimit
 un:A.units + 16 * k + 200 < cLine
theorem iT.mono {j k:Nat} {A:Around} (r:iT k A) (h:j<=k):iT j A:=⟨r.hd,by have:=r.dp;omega,by have:=r.un;omega⟩
theorem iT.deeper {k:Nat} {A:Around} (r:iT (k + 1) A) (env:Env):iT k (A.deeper env) :=
 ⟨r.hd,by have:=r.dp;show A.depth + 1 + 3 * k + 5 < _;omega,by have:=r.un;show A.units + 3 + 16 * k + 200 < _;omega⟩
theorem SJ {A:Around} {C:Addr} {us:List Value} {kw:List (Str × Value)}:(A.under (.builtin "type.__call__" ⟨.ref C :: us,kw⟩)).depth=A.depth + 1:=by
 first | rfl | simp [Around.under,Code.weight,Code.isCreation,Code.isGuard,Code.isCaller,Code.frames,Code.isFrame,guardIds]
theorem SK {A:Around} {C:Addr} {us:List Value} {kw:List (Str × Value)}:(A.under (.builtin "type.__call__" ⟨.ref C :: us,kw⟩)).units=A.units + 1:=by
 first | rfl | simp [Around.under,Code.cUnits,Code.frames,Code.isFrame]
theorem iT.depth {k:Nat} {A:Around} (r:iT k A):A.depth < recursionLimit:=by have:=r.dp;omega
theorem iT.units {k:Nat} {A:Around} (r:iT k A):A.units + 64 < cLine:=by have:=r.un;omega
theorem iT.units0 {k:Nat} {A:Around} (r:iT k A):A.units < cLine:=by have:=r.un;omega
noncomputable def Ei:TA:=fun _ H Q=>Q [] H
noncomputable def Hc (ta:TE) (tr:TA):TA:=fun σ H Q=>ta σ H fun x H1=>tr σ H1 fun xs H2=>Q (x :: xs) H2
section
variable {X:Cx} {e:Expr} {es:List Expr} {te:TE} {t:TA} {pos:Pos}
theorem JJ:PA X [] Ei:=fun _ _ _ _ H Q I h=>Calls.spliced_nil ⟨[],H,I,.nil,h⟩
theorem F4 (ha:PE X e te) (hr:PA X es t) (hs:starEach (e :: es) X.env=(false,eval e X.env) :: starEach es X.env:=by rfl):PA X (e :: es) (Hc te t):=by
 intro pos pins s σ H Q I h
 rw [hs]
 show wpAny _ _ (spliced ((false,eval e X.env) :: backTo pos (starEach es X.env))) _ _ s
 refine Calls.spliced_cons (bR (ha pins s σ H _ I h) fun u s1 ⟨x,H1,I1,r1,q1⟩=>?_)
 exact bR (hr pos pins s1 σ H1 _ I1 q1) fun us s2 ⟨xs,H2,I2,r2,q2⟩=>⟨x :: xs,H2,I2,.cons r1 r2,q2⟩
noncomputable def Qf (t:TA):TE:=fun σ H Q=>t σ H fun xs H1=>xs.length<=sizeLine/\∀ p,H1 p=none->Q (.ref p) (upd H1 p (.tup xs))
noncomputable def RG (t:TA):TE:=fun σ H Q=>t σ H fun xs H1=>xs.length<=sizeLine/\∀ p,H1 p=none->Q (.ref p) (upd H1 p (.lst xs))
theorem QX {x1} (h:PA X es t):PE X (.Tuple es x1 pos) (Qf t):=by
 intro pins s σ H Q I hq
 refine wpAny_Tuple_spliced (bR (h pos pins s σ H _ I hq) fun us s1 ⟨xs,H1,I1,r,z,q⟩=>⟨by rw [<- r.length];exact z,?_⟩)
 have hf:H1 s1.heap.objs.size=none:=I1.hok.fresh (Nat.le_refl _)
 refine ⟨.ref s1.heap.objs.size,upd H1 s1.heap.objs.size (.tup xs),I1.laid (t':=s1.toks) (fun b u e=>Heap.get?_push_of_some _ e) (Nat.le_refl _) ?_,rfl,q _ hf⟩
 exact ⟨z,us,r,⟨_,Heap.get?_push_size _ rfl,rfl,_,rfl⟩⟩
theorem RH (h:PA X es t):PE X (.List es pos) (RG t):=by
 intro pins s σ H Q I hq
 refine wpAny_List_spliced (bR (h pos pins s σ H _ I hq) fun us s1 ⟨xs,H1,I1,r,z,q⟩=>⟨by rw [<- r.length];exact z,?_⟩)
 have hf:H1 s1.heap.objs.size=none:=I1.hok.fresh (Nat.le_refl _)
 refine ⟨.ref s1.heap.objs.size,upd H1 s1.heap.objs.size (.lst xs),I1.laid (t':=s1.toks) (fun b u e=>Heap.get?_push_of_some _ e) (Nat.le_refl _) ?_,rfl,q _ hf⟩
 exact ⟨z,us,0,r,Heap.get?_push_size _ rfl⟩
end
noncomputable abbrev Sp:=List V->Hp->VK->XK->Prop
noncomputable abbrev wD:=List Env->Hp->Shared->XK->Value->Shared->Prop
structure GI (P:Program) (w:World) (K:PySem.W.Frag) (mg:Str->Option Value) (base:Heap) (A:Around) (outer:List Env) (s:Shared) (H:Hp):Prop where
 frames:A.frames=some outer
 mod:Mod K mg base
 bs:∀ b o,base.get? b=some o->s.heap.get? b=some o/\H b=none
 bsz:base.objs.size<=s.heap.objs.size
 funs:s.heap.FunFrames base outer
 frf:∀ b∈wC outer,H b=none
 hok:iU P w H s.heap
 bare:AllBare s.gens
noncomputable def CE (outer:List Env) (P:Program) (w:World) (H:Hp) (s:Shared) (Q:VK) (u:Value) (s':Shared):Prop :=
 ∃ v H',s'.os=s.os/\AllBare s'.gens/\Un (wC outer) [] H H' s.heap s'.heap/\iU P w H' s'.heap/\RelV v u/\Q v H'
noncomputable def CR (CX:wD) (outer:List Env) (P:Program) (w:World) (H:Hp) (s:Shared) (Q:VK) (E:XK) (r:Result) (s':Shared):Prop :=
 match r with
 | .ok (.ret u)=>CE outer P w H s Q u s'
 | .ok _=>False
 | .error e=>CX outer H s E e s'
structure mD (P:Program) (w:World) (K:PySem.W.Frag) (mg:Str->Option Value) (base:Heap) (CX:wD) (k:Nat) (f:Addr) (fd:FuncData) (ps:List Str) (sp:Sp):Prop where
 len:∀ vs H Q E,sp vs H Q E->vs.length=ps.length
 run:∀ (A:Around) (outer:List Env) (s:Shared) (H:Hp) (args:Args) (us:List Value) (vs:List V) (Q:VK) (E:XK),iT k A->GI P w K mg base A outer s H->BindsTo s fd args (ps.zip us)->Vals vs us->sp vs H Q E ->
  codeAny (model P w) A (.call (.ref f) args) (CR CX outer P w H s Q E) s
theorem mD.imp {P:Program} {w:World} {K:PySem.W.Frag} {mg:Str->Option Value} {base:Heap} {CX:wD} {k:Nat} {f:Addr} {fd:FuncData} {ps:List Str} {sp sp':Sp} (F:mD P w K mg base CX k f fd ps sp)
  (h:∀ vs H Q E,sp' vs H Q E->sp vs H Q E):mD P w K mg base CX k f fd ps sp' :=
 ⟨fun vs H Q E q=>F.len vs H Q E (h _ _ _ _ q),fun A outer s H args us vs Q E hr he hb hv hs=>F.run A outer s H args us vs Q E hr he hb hv (h _ _ _ _ hs)⟩
section
variable {X:Cx} {pins:List (Addr × Obj)} {σ:St} {H:Hp} {s s':Shared}
theorem Inv.env0 (I:Inv X pins σ H s):GI X.prog X.w X.K X.mg X.base X.A X.stack s H :=
 ⟨I.ok.frames,I.ok.mod,I.bs,Nat.le_trans I.ok.bsz I.sz,I.stack,I.stkFree,I.hok,I.bare⟩
theorem Inv.after {Q:VK} {u:Value} (I:Inv X pins σ H s) (h:CE X.stack X.prog X.w H s Q u s'):EP X pins σ Q u s':=by
 obtain ⟨v,H',os,bare,un,hok,r,q⟩:=h
 obtain ⟨hh,g,d,t,os'⟩:=s'
 obtain rfl:os'=s.os:=os
 exact ⟨v,H',I.call (h':=hh) (g':=g) (d':=d) (t':=t) (ch:=[]) un hok bare (fun b z=>absurd z (by simp)),r,q⟩
end
noncomputable def HA (sp:Sp) (dvs:List V) (E:XK) (t:TA):TE:=fun σ H Q=>t σ H fun vs H1=>sp (vs++dvs) H1 Q E
noncomputable def Binds (K:PySem.W.Frag) (fd:FuncData) (ps:List Str) (ds:List Value):Prop :=
 ∀ (s:Shared) (us:List Value),K.In s.heap->(us++ds).length=ps.length->BindsTo s fd ⟨us,[]⟩ (ps.zip (us++ds))
theorem Binds.all {K:PySem.W.Frag} {fd:FuncData} {ps:List Str} (h:∀ us:List Value,us.length=ps.length->bindArgs fd ⟨us,[]⟩=pure (ps.zip us)):Binds K fd ps []:=fun s us _ hl=>by
 rw [List.append_nil] at hl ⊢
 exact .of_eq (h us hl)
noncomputable def Passes (CX:wD) (X:Cx) (E:XK):Prop:=∀ (pins:List (Addr × Obj)) (σ:St) (H:Hp) (s:Shared) (e:Value) (s':Shared),Inv X pins σ H s->CX X.stack H s E e s'->X.xe e s'
section
variable {X:Cx} {CX:wD} {k:Nat} {f C:Addr} {fd:FuncData} {ps:List Str} {sp:Sp} {dvs:List V} {ds:List Value} {E:XK} {x m:Str} {p pos apos:Pos} {e o:Expr} {es:List Expr} {ta:TE} {t:TA}
theorem RW {pins:List (Addr × Obj)} {σ:St} {H:Hp} {s:Shared} {Q:VK} {us:List Value} {vs:List V} (F:mD X.prog X.w X.K X.mg X.base CX k f fd ps sp) (hr:iT k X.A) (hb:Binds X.K fd ps ds) (hd:Vals dvs ds) (hx:Passes CX X E)
  (I:Inv X pins σ H s) (r:Vals vs us) (h:sp (vs++dvs) H Q E):wpAny (model X.prog X.w) X.A (call (.ref f) us) (EP X pins σ Q) X.xe s:=by
 have r2:Vals (vs++dvs) (us++ds):=r.append hd
 have hl:(us++ds).length=ps.length:=by rw [<- r2.length];exact F.len _ _ _ _ h
 refine wpAny_call (codeAny_mono (F.run X.A X.stack s H ⟨us,[]⟩ (us++ds) (vs++dvs) Q E hr I.env0 (hb s us I.kIn hl) r2 h) fun r s' hq=>?_)
 cases r with
 | error e=>exact hx pins σ H s e s' I hq
 | ok fl =>
  cases fl with
  | ret u=>exact I.after hq
  | next=>exact False.elim hq
  | brk=>exact False.elim hq
  | cont=>exact False.elim hq
theorem PF (F:mD X.prog X.w X.K X.mg X.base CX k f fd ps sp) (hr:iT k X.A) (hg:Gl X x) (hm:X.mg x=some (.ref f)) (hk:PySem.W.keepIn X.K (.ref f)=true) (hb:Binds X.K fd ps ds) (hd:Vals dvs ds) (hx:Passes CX X E)
  (ha:PA X (e :: es) t) (hdb:(x == ("__debug__":Str))=false:=by decide) (he:starEach (e :: es) X.env=(false,eval e X.env) :: starEach es X.env:=by rfl) (hpl:(backTo pos (starEach es X.env)).any (·.1)=false:=by rfl) :
  PE X (.Call (.Name x p) (e :: es) [] pos) (HA sp dvs E t):=by
 intro pins s σ H Q I h
 refine wpAny_Call_Name_kw (FJ I hg hm ?_ hdb)
 refine PySem.W.callWith_K (h₀:=X.base) I.ok.mod.kin hk (bR (ha pos pins s σ H _ I h) fun us s1 ⟨vs,H1,I1,r,q⟩=>⟨I1.kIn,?_⟩) he hpl
 exact RW F hr hb hd hx I1 r q
end
section
variable {X:Cx} {CX:wD} {k:Nat} {f C:Addr} {fd:FuncData} {ps ks:List Str} {sp:Sp} {E:XK} {x m:Str} {p pos apos kpos:Pos} {e o:Expr} {es:List Expr} {kws:List Keyword} {te ta:TE} {t tk:TA} {nm:Option Str}
variable {g:List Value->List Value->List Value} {gV:List V->List V->List V}
end
structure bC (N P:List Str) (sc:Scope):Prop where
 kind:sc.kind=.function
 co:sc.isCoroutine=false
 gen:sc.isGenerator=false
 nd:N.Nodup
 pre:N.take P.length=P
 par:∀ x∈P,sc.names.lookup x=some .local\/sc.names.lookup x=some .cell
 nofree:∀ y∈sc.names,y.2≠.free
theorem BZ {kindOf:Str->Option NameKind} {x:Str}:∀ {binds:List (Str × Value)} {m:Str->Option Value},(∀ v,(x,v) ∉ binds)->bindL kindOf binds m x=m x
 | [],_,_=>rfl
 | (n,v) :: r,m,h=>by
  unfold bindL
  rw [BZ fun w hw=>h w (List.mem_cons_of_mem _ hw)]
  split
  ·have:x≠n:=by rintro rfl;exact h v List.mem_cons_self
   simp [this]
  ·rfl
theorem BS {kindOf:Str->Option NameKind} {x:Str}:∀ {binds:List (Str × Value)} {m:Str->Option Value},(∀ v,(x,v) ∉ binds)->bindC kindOf binds m x=m x
 | [],_,_=>rfl
 | (n,v) :: r,m,h=>by
  unfold bindC
  rw [BS fun w hw=>h w (List.mem_cons_of_mem _ hw)]
  split
  ·rfl
  ·have:x≠n:=by rintro rfl;exact h v List.mem_cons_self
   simp [this]
theorem Cu {kindOf:Str->Option NameKind} {x:Str} {v:Value}:∀ {P:List Str} {vs:List Value} {i:Nat} {m:Str->Option Value},P.Nodup->P[i]?=some x->vs[i]?=some v->kindOf x=some .local ->
  bindL kindOf (P.zip vs) m x=some v
 | [],_,_,_,_,h,_,_=>by simp at h
 | _ :: _,[],_,_,_,_,h,_=>by simp at h
 | p :: P,w :: vs,0,m,nd,h1,h2,hk=>by
  simp at h1 h2;subst h1;subst h2
  show bindL kindOf ((p,w) :: P.zip vs) m p=_
  unfold bindL
  rw [BZ fun v hv=>(List.nodup_cons.mp nd).1 (List.of_mem_zip hv).1,if_pos hk]
  simp
 | p :: P,w :: vs,i + 1,m,nd,h1,h2,hk=>by
  show bindL kindOf ((p,w) :: P.zip vs) m x=_
  unfold bindL
  exact Cu (i:=i) (List.nodup_cons.mp nd).2 (by simpa using h1) (by simpa using h2) hk
theorem B9 {kindOf:Str->Option NameKind} {x:Str} {v:Value}:∀ {P:List Str} {vs:List Value} {i:Nat} {m:Str->Option Value},P.Nodup->P[i]?=some x->vs[i]?=some v->kindOf x≠some .local ->
  bindC kindOf (P.zip vs) m x=some v
 | [],_,_,_,_,h,_,_=>by simp at h
 | _ :: _,[],_,_,_,_,h,_=>by simp at h
 | p :: P,w :: vs,0,m,nd,h1,h2,hk=>by
  simp at h1 h2;subst h1;subst h2
  show bindC kindOf ((p,w) :: P.zip vs) m p=_
  unfold bindC
  rw [BS fun v hv=>(List.nodup_cons.mp nd).1 (List.of_mem_zip hv).1,if_neg hk]
  simp
 | p :: P,w :: vs,i + 1,m,nd,h1,h2,hk=>by
  show bindC kindOf ((p,w) :: P.zip vs) m x=_
  unfold bindC
  exact B9 (i:=i) (List.nodup_cons.mp nd).2 (by simpa using h1) (by simpa using h2) hk
noncomputable def start (N:List Str) (vs:List V):St:=vs.map some++List.replicate (N.length - vs.length) none
noncomputable def Bk (CX:wD) (P:Program) (w:World) (K:PySem.W.Frag) (mg:Str->Option Value) (base:Heap) (N:List Str) (qual:Str) (scope:Scope) (f:Addr) (cd:Value) (A:Around) (outer:List Env) (s:Shared) (H:Hp) (E:XK):Cx where
 prog:=P
 w:=w
 K:=K
 mg:=mg
 base:=base
 A:=A.deeper (envOfC qual scope s.heap.objs.size f cd)
 N:=N
 s₀:=s
 H₀:=H
 env:=envOfC qual scope s.heap.objs.size f cd
 outer:=outer
 stack:=envOfC qual scope s.heap.objs.size f cd :: outer
 ex:=[]
 calm:=true
 fn:=fun _=>true
 pn:=[]
 xe:=fun e s'=>wpAny (model P w) (A.deeper (envOfC qual scope s.heap.objs.size f cd)) (leaving (envOfC qual scope s.heap.objs.size f cd) e) (fun _ s''=>CX outer H s E e s'') (fun e' s''=>CX outer H s E e' s'') s'
theorem Dx {sc:Scope} {n:Nat} {x:Str} (h:sc.names.lookup x=some .cell):∃ c,(cellsFrom n sc.names []).lookup x=some c:=by
 have q:=PySem.W.cellsFrom_some sc.names n [] (.inl h)
 exact Option.isSome_iff_exists.mp q
theorem JE {CX:wD} {P:Program} {w:World} {K:PySem.W.Frag} {mg:Str->Option Value} {base:Heap} {N ps:List Str} {qual:Str} {scope:Scope} {f:Addr} {cd:Value} {A:Around} {outer:List Env} {s s1:Shared} {H:Hp} {E:XK} {us:List Value} {vs:List V}
  (S:bC N ps scope) (hd:A.handled=none) (e0:GI P w K mg base A outer s H) (hl:vs.length=ps.length) (r:Vals vs us)
  (x:InCallC s s.heap.objs.size (bindL (envOfC qual scope s.heap.objs.size f cd).kindOf (ps.zip us) fun _=>none) (cellsFrom (s.heap.objs.size + 1) scope.names []) (bindC (envOfC qual scope s.heap.objs.size f cd).kindOf (ps.zip us) fun _=>none) s1) :
  Inv (Bk CX P w K mg base N qual scope f cd A outer s H E) [] (start N vs) H s1:=by
 have hpl:ps.length<=N.length:=by have:=congrArg List.length S.pre;rw [List.length_take] at this;omega
 obtain ⟨h1,tk,rfl,hk⟩:=x.done
 have noA:∀ b:Addr,b ∉ (Bk CX P w K mg base N qual scope f cd A outer s H E).ex:=fun b z=>absurd (show b∈([]:List Addr) from z) (by simp)
 refine ⟨⟨e0.mod,S.kind,rfl,rfl,Nat.le_refl _,fun y z c h1 h2=>?_,fun y hy=>?_,fun y c _ h=>?_,fun _=>hd,Around.frames_deeper e0.frames,.inr ⟨rfl,rfl⟩,fun b z=>absurd z (noA b),e0.bs,e0.bsz,fun b _ _=>noA b,fun b z=>absurd z (noA b),e0.funs,e0.frf⟩,
  rfl,e0.bare,Un.kept hk,⟨_,x.toInCall.ns,fun i y v h1 h2 h3=>?_⟩,fun y c h=>⟨_,x.cell y c h⟩,e0.hok.fresh (Nat.le_refl _),fun y c h=>?_,fun p hp=>absurd (show p∈([]:List (Addr × Obj)) from hp) (by simp),e0.hok.kept hk,?_⟩
 ·exact name_of_addr x.apart (PySem.mem_of_lookup h1) (PySem.mem_of_lookup h2)
 ·have hy:scope.names.lookup y=some .cell\/scope.names.lookup y=some .free:=hy
  rcases hy with hy | hy
  ·exact Dx hy
  ·exact absurd rfl (S.nofree _ (PySem.mem_of_lookup hy))
 ·exact Nat.le_of_lt (x.above y c (PySem.mem_of_lookup h))
 ·have hi:i < vs.length:=by
   unfold start at h2
   by_cases hi:i < vs.length
   ·exact hi
   ·rw [List.getElem?_append_right (by simpa using hi)] at h2
    rw [List.getElem?_replicate] at h2
    split at h2 <;> cases h2
  have ha:vs[i]?=some v:=by
   unfold start at h2
   rw [List.getElem?_append_left (by simpa using hi),List.getElem?_map] at h2
   cases e:vs[i]? with
   | none=>rw [e] at h2;cases h2
   | some a=>rw [e] at h2;cases h2;rfl
  obtain ⟨u,hu,rv⟩:=r.get ha
  have hp:ps[i]?=some y:=by
   rw [<- S.pre,List.getElem?_take_of_lt (by omega)];exact h1
  have ndP:ps.Nodup:=by rw [<- S.pre];exact S.nd.sublist (List.take_sublist _ _)
  refine ⟨u,rv,?_⟩
  rcases S.par y (List.mem_of_getElem? hp) with k | k
  ·exact .inl ⟨k,Cu ndP hp hu k⟩
  ·obtain ⟨c,e⟩:=Dx (n:=s.heap.objs.size + 1) k
   refine .inr ⟨.inl k,c,e,?_⟩
   have q:=x.cell y c e
   rw [B9 ndP hp hu (by show scope.names.lookup y≠_;rw [k];decide)] at q
   exact q
 ·exact e0.hok.fresh (Nat.le_of_lt (x.above y c (PySem.mem_of_lookup h)))
 ·unfold start
  show _=N.length
  rw [List.length_append,List.length_map,List.length_replicate]
  omega
theorem SH {CX:wD} {P:Program} {w:World} {K:PySem.W.Frag} {mg:Str->Option Value} {base:Heap} {k:Nat} {f:Addr} {name qual:Str} {params:Arguments} {body:List Stmt} {scope:Scope} {dV kV doc pm cdv ct oc:Value} {an od:Option Addr}
  {osl:Array (Option Value)} {N ps:List Str} {sp:Sp} (lk:K.lookup f=some ⟨oc,od,.func (PySem.W.fnOf name qual params body scope dV kV doc pm an cdv ct),osl⟩) (hcd:PySem.W.codeIn K cdv qual=true) (S:bC N ps scope)
  (len:∀ vs H Q E,sp vs H Q E->vs.length=ps.length)
  (hbody:∀ (A:Around) (outer:List Env) (s:Shared) (H:Hp) (vs:List V) (Q:VK) (E:XK),iT k (A.deeper (envOfC qual scope s.heap.objs.size f cdv))->sp vs H Q E ->
   ∃ t,rT (Bk CX P w K mg base N qual scope f cdv A outer s H E) body t/\t { nx:=fun _ H'=>Q .non H',rt:=Q } (start N vs) H) :
  mD P w K mg base CX (k + 1) f (PySem.W.fnOf name qual params body scope dV kV doc pm an cdv ct) ps sp:=by
 refine ⟨len,fun A outer s H args us vs Q E hr e0 hb r hsp=>?_⟩
 have hl:=len _ _ _ _ hsp
 have KX:K.In s.heap:=e0.mod.kin.keeps fun b o e=>(e0.bs b o e).1
 have lim:s.heap.NoLimit:=e0.mod.nolimit.keeps fun b o e=>(e0.bs b o e).1
 have hkind:∀ y∈ps.zip us,scope.names.lookup y.1=some .local\/(scope.names.lookup y.1=some .cell/\((cellsFrom (s.heap.objs.size + 1) scope.names []).lookup y.1).isSome=true):=fun ⟨n,v⟩ hy=>by
  rcases S.par n (List.of_mem_zip hy).1 with q | q
  ·exact .inl q
  ·exact .inr ⟨q,PySem.W.cellsFrom_some _ _ _ (.inl q)⟩
 refine codeAny_call_function hr.depth (KX _ _ lk) rfl S.co S.gen rfl (PySem.W.codeRec_of KX hcd) (hb _ _ _ _ ?_)
 refine wpAny_newFunctionEnv_cells S.kind hkind fun env he s1 x=>?_
 subst he
 refine ⟨lim.keeps x.toInCall.keep,codeAny_func ?_⟩
 obtain ⟨t,ht,hq⟩:=hbody A outer s H vs Q E (hr.deeper _) hsp
 have I:Inv (Bk CX P w K mg base N qual scope f cdv A outer s H E) [] (start N vs) H s1:=JE S hr.hd e0 hl r x
 refine wpAny_mono (ht [] s1 (start N vs) H _ I hq) (fun fl s' hs=>?_) fun e s' hs=>hs
 have fin:∀ {σ':St} {H':Hp} {v:V} {u:Value},Inv (Bk CX P w K mg base N qual scope f cdv A outer s H E) [] σ' H' s'->RelV v u->Q v H'->CE outer P w H s Q u s' :=
  fun {σ' H' v u} J rv q=>⟨v,H',J.os,J.bare,J.base,J.hok,rv,q⟩
 cases fl with
 | ret u =>
  obtain ⟨v,σ',H',J,rv,q⟩:=hs
  exact fin J rv q
 | next =>
  obtain ⟨σ',H',J,q⟩:=hs
  exact fin (v:=V.non) (u:=Value.none) J rfl q
 | brk =>
  obtain ⟨_,_,_,q⟩:=hs
  exact False.elim q
 | cont =>
  obtain ⟨_,_,_,q⟩:=hs
  exact False.elim q
section
variable {X:Cx} {x:Str} {p pos:Pos} {e:Expr} {es:List Expr} {t:TA} {id T:String} {r:List V->Hp->VK->Prop}
noncomputable def QJ (r:List V->Hp->VK->Prop) (t:TA):TE:=fun σ H Q=>t σ H fun vs H1=>r vs H1 Q
theorem Ls (hc:h8 X (.builtin id) r) (hg:Gl X x) (hm:X.mg x=none) (hv:bootBuiltins x=some (.builtin id)) (ha:PA X (e :: es) t) (hn:x≠"__name__":=by decide) (hdb:(x == ("__debug__":Str))=false:=by decide)
  (he:starEach (e :: es) X.env=(false,eval e X.env) :: starEach es X.env:=by rfl) (hpl:(backTo pos (starEach es X.env)).any (·.1)=false:=by rfl):PE X (.Call (.Name x p) (e :: es) [] pos) (QJ r t):=by
 intro pins s σ H Q I h
 refine wpAny_Call_Name_kw (lX I hg hm hv ?_ hn hdb)
 exact PyProof.Rows.callWith_builtin1 (bR (ha pos pins s σ H _ I h) fun us s1 ⟨vs,H1,I1,r1,q1⟩=>hc pins s1 σ H1 vs us Q I1 r1 q1) he hpl
theorem Jn (hc:h8 X (.type T) r) (hg:Gl X x) (hm:X.mg x=none) (hv:bootBuiltins x=some (.type T)) (ha:PA X (e :: es) t) (hn:x≠"__name__":=by decide) (hdb:(x == ("__debug__":Str))=false:=by decide)
  (he:starEach (e :: es) X.env=(false,eval e X.env) :: starEach es X.env:=by rfl) (hpl:(backTo pos (starEach es X.env)).any (·.1)=false:=by rfl):PE X (.Call (.Name x p) (e :: es) [] pos) (QJ r t):=by
 intro pins s σ H Q I h
 refine wpAny_Call_Name_kw (lX I hg hm hv ?_ hn hdb)
 exact PyProof.Rows.callWith_type1 (bR (ha pos pins s σ H _ I h) fun us s1 ⟨vs,H1,I1,r1,q1⟩=>hc pins s1 σ H1 vs us Q I1 r1 q1) he hpl
end
end L2
namespace HT
open PySem PyProof.Rows
noncomputable def lexLt:List Int->List Int->Bool
 | [],[]=>false
 | [],_ :: _=>true
 | _ :: _,[]=>false
 | x :: xs,y :: ys=>if x=y then lexLt xs ys else decide (x < y)
theorem Hh (x y:Int) (xs ys:List Int):lexLt (x :: xs) (y :: ys)=if x=y then lexLt xs ys else decide (x < y):=rfl
theorem CM:lexLt [] []=false:=rfl
theorem BE (y:Int) (ys:List Int):lexLt [] (y :: ys)=true:=rfl
theorem BM (x:Int) (xs:List Int):lexLt (x :: xs) []=false:=rfl
theorem LL (A:Around) (s:Shared) (a:Int) (t:Tok) (c:Int) (u:Tok):∃ e,SeqAt.EqAt A s (.int a t) (.int c u) e/\(e=true ↔ a=c) :=
 ⟨(a == c),SeqAt.EqAt.int_int a t c u,by simp⟩
theorem LB (A:Around) (s:Shared) (a:Int) (t:Tok) (c:Int) (u:Tok) (prog:Program) (w:World) (E:Value->Shared->Prop) (Q:Value->Shared->Prop) (h:Q (.bool (decide (a < c))) s) :
  wpAny (model prog w) A (richCompare .Lt (.int a t) (.int c u)) Q E s :=
 (PyProof.Rows.lt_int h:wpAny (model prog w) A (compareOp .Lt (.int a t) (.int c u)) Q E s)
section
open PySem.SeqAt
open PySem.AutoSeq1 (wpAny_loadPart')
open PySem.MeetsSeq PySem.MeetsSeq2 PySem.MeetsSeq3
theorem CY (l b:Addr) (items items2:Array Value) (n n2:Nat) (dd dd2:Option Addr) (sl sl2:Array (Option Value)) (ns ms:List Int) (hi:IntsAre items.toList ns) (hj:IntsAre items2.toList ms) :
  Meets (Builtin.«tuple.__lt__» ⟨[.ref l,.ref b],[]⟩)
   (fun _ R s=>s.heap.get? l=some { cls:=.type "tuple",dict:=dd,data:=.seq items n,slots:=sl }/\s.heap.get? b=some { cls:=.type "tuple",dict:=dd2,data:=.seq items2 n2,slots:=sl2 } /\
    R (.ok (.ret (.bool (lexLt ns ms)))) s) :=
 .of_wp fun prog w A R s h=>by
  obtain ⟨hp,g,d,tk,os⟩:=s;obtain ⟨hl,hb,h⟩:=h
  have f2:=AutoSeq1.sub_tuple_tuple
  have z1:items.size=ns.length:=by rw [<- hi.length];simp
  have z2:items2.size=ms.length:=by rw [<- hj.length];simp
  wp_walk using wpAny_loadPart' hl,wpAny_loadPart' hb,wpAny_forIn_list _ (fun rest b s'=>b.1=none/\s'=⟨hp,g,d,tk,os⟩/\∃ (vs ws:List Value) (ns' ms':List Int),rest=vs.zip ws /\
   IntsAre vs ns'/\IntsAre ws ms'/\ns'.length + items2.size=ms'.length + items.size/\R (.ok (.ret (.bool (lexLt ns' ms')))) ⟨hp,g,d,tk,os⟩) _
  case turn =>
   rintro ⟨y,x⟩ rest b s' ⟨hb',rfl,vs,ws,ns',ms',hz,hvi,hwi,hlen,hR⟩
   cases hvi with
   | nil=>rw [List.zip_nil_left] at hz;cases hz
   | cons a t hvi' =>
    cases hwi with
    | nil=>rw [List.zip_nil_right] at hz;cases hz
    | cons c u hwi' =>
     rw [List.zip_cons_cons] at hz
     injection hz with hyx hrest
     injection hyx with hy hx
     subst hy hx
     rw [Hh] at hR
     simp only [List.length_cons] at hlen
     obtain ⟨e,he,hiff⟩:=LL A.in1 ⟨hp,g,d,tk,os⟩ a t c u
     refine wpAny_bind (he prog w _ _ ?_)
     cases e with
     | true =>
      rw [if_pos (hiff.mp rfl)] at hR
      wp_walk
      exact ⟨rfl,rfl,_,_,_,_,hrest,hvi',hwi',by omega,hR⟩
     | false =>
      rw [if_neg (fun q=>absurd (hiff.mpr q) Bool.false_ne_true)] at hR
      have hri:=LB A.in1 ⟨hp,g,d,tk,os⟩ a t c u prog w
      wp_walk using hri
      exact ⟨_,rfl,by simpa using hR⟩
  case fin =>
   rintro ⟨b1,b2⟩ s' ⟨hb',rfl,vs,ws,ns',ms',hz,hvi,hwi,hlen,hR⟩
   simp only at hb'
   subst hb'
   have hv:lexLt ns' ms'=decide (items.size < items2.size):=by
    cases hvi with
    | nil =>
     cases hwi with
     | nil =>
      simp only [List.length_nil] at hlen
      rw [CM]
      exact (decide_eq_false (by omega)).symm
     | cons c u hw =>
      simp only [List.length_nil,List.length_cons] at hlen
      rw [BE]
      exact (decide_eq_true (by omega)).symm
    | cons a t hv =>
     cases hwi with
     | nil =>
      simp only [List.length_nil,List.length_cons] at hlen
      rw [BM]
      exact (decide_eq_false (by omega)).symm
     | cons c u hw =>
      rw [List.zip_cons_cons] at hz
      cases hz
   rw [hv] at hR
   wp_walk
   exact ⟨_,rfl,by simpa [Builtin.Tuple.tupleCompareSizes] using hR⟩
  case h =>
   exact ⟨rfl,rfl,items.toList,items2.toList,ns,ms,rfl,hi,hj,by omega,h⟩
end
section
variable {prog:Program} {w:World} {A:Around} {E:Value->Shared->Prop} {s:Shared}
theorem Hq {l b:Addr} {items items2:Array Value} {ns ms:List Int} {Q:Value->Shared->Prop} (hl:IsTup s.heap l items) (hb:IsTup s.heap b items2) (hi:IntsAre items.toList ns) (hj:IntsAre items2.toList ms)
  (hu:A.units < cLine) (h:Q (.bool (lexLt ns ms)) s):wpAny (model prog w) A (compareOp .Lt (.ref l) (.ref b)) Q E s:=by
 obtain ⟨⟨cls,dd,data,sl⟩,ho,hc,n,hd⟩:=id hl
 obtain ⟨⟨cls2,dd2,data2,sl2⟩,ho2,hc2,n2,hd2⟩:=id hb
 simp only at hc hd hc2 hd2
 subst hc hd hc2 hd2
 exact richCompare_meets_room (op:=.Lt) ⟨_,ho,rfl⟩ ⟨_,ho2,rfl⟩ PySem.F.slot_tuple_lt PySem.F.entry_tuple_lt (PySem.F.args_tuple_lt_2 _ _) (CY l b items items2 n n2 dd dd2 sl sl2 ns ms hi hj)
  ⟨ho,ho2,show Value.bool (lexLt ns ms)≠Value.notImplemented/\Q (.bool (lexLt ns ms)) s from ⟨(fun x=>nomatch x),h⟩⟩ hu
theorem Of {t b:Addr} {vs ws:List Value} {Q:Value->Shared->Prop} (ht:IsTup s.heap t vs.toArray) (hb:IsTup s.heap b ws.toArray) (hv:vs≠[])
  (h1:ws=[]->Q (.ref t) s) (h2:ws≠[]->Q (.ref s.heap.objs.size) { s with heap:=s.heap.push { cls:=.type "tuple",data:=.seq (vs++ws).toArray } })
  (hsz:vs.length + ws.length<=sizeLine):wpAny (model prog w) A (binaryOp .Add (.ref t) (.ref b)) Q E s:=by
 obtain ⟨⟨cls,dd,data,sl⟩,ho,hc,n,hd⟩:=id ht
 obtain ⟨⟨cls2,dd2,data2,sl2⟩,ho2,hc2,n2,hd2⟩:=id hb
 simp only at hc hd hc2 hd2
 subst hc hd hc2 hd2
 have e:vs.toArray++ws.toArray=(vs++ws).toArray:=by simp
 by_cases hw:ws=[]
 ·exact concat_meets ⟨_,ho,rfl⟩ ⟨_,ho2,rfl⟩ noFill_tuple_add seq_tuple_add PySem.F.slot_tuple_add PySem.F.entry_tuple_add (PySem.F.args_tuple_add_2 _ _)
   (tuple_addW1 t b vs.toArray ws.toArray n n2 dd dd2 sl sl2 (by simpa using hv) (by simp [hw])) ⟨ho,ho2,h1 hw⟩
 ·refine concat_meets ⟨_,ho,rfl⟩ ⟨_,ho2,rfl⟩ noFill_tuple_add seq_tuple_add PySem.F.slot_tuple_add PySem.F.entry_tuple_add (PySem.F.args_tuple_add_2 _ _)
   (tuple_addW2 t b vs.toArray ws.toArray n n2 dd dd2 sl sl2 (by simpa using hv) (by simpa using hw) (by rw [List.size_toArray,List.size_toArray];exact hsz)) ⟨ho,ho2,?_⟩
  rw [e]
  exact h2 hw
noncomputable def bW (n d:Nat):Option Int->Nat
 | none=>d
 | some v=>if v < 0 then (v + (n:Int)).toNat else min v.toNat n
theorem Q6 (n d:Nat) (hd:d<=n) (o:Option Int):bW n d o<=n:=by
 cases o with
 | none=>exact hd
 | some v =>
  show (if v < 0 then (v + (n:Int)).toNat else min v.toNat n)<=n
  by_cases hv:v < 0
  ·rw [if_pos hv];omega
  ·rw [if_neg hv];exact Nat.min_le_right _ _
theorem F9 (v:Int) (n d:Nat):(if v < 0 then max (v + (n:Int)) 0 else min v (n:Int))=((bW n d (some v):Nat):Int):=by
 show (if v < 0 then max (v + (n:Int)) 0 else min v (n:Int))=(((if v < 0 then (v + (n:Int)).toNat else min v.toNat n):Nat):Int)
 by_cases hv:v < 0
 ·simp only [if_pos hv];omega
 ·simp only [if_neg hv];omega
theorem GU (lo hi:Option Int) (n:Nat):Builtin.Slice.sliceAdjust lo hi 1 (n:Int)=(((bW n 0 lo:Nat):Int),((bW n n hi:Nat):Int)):=by
 have h1:¬ ((1:Int) < 0):=by omega
 unfold Builtin.Slice.sliceAdjust
 simp only [h1,if_false]
 refine Prod.ext ?_ ?_
 ·cases lo with
  | none=>rfl
  | some v=>exact F9 v n 0
 ·cases hi with
  | none=>rfl
  | some v=>exact F9 v n n
theorem HL (i j:Nat):Builtin.Slice.slicePlaces (i:Int) (j:Int) 1=j - i:=by
 unfold Builtin.Slice.slicePlaces
 have h1:(1:Int) > 0:=by omega
 simp only [h1,if_true,Int.ediv_one]
 split <;> omega
theorem AO {v:Value} {o:Option Int} {Q:Option Int->Shared->Prop} (p:IsPart v o) (h:Q o s):wpAny (model prog w) A (Builtin.Slice.slicePartIndex v) Q E s:=by
 cases p with
 | none=>exact slicePart_none h
 | int i t=>exact slicePart_int h
theorem rC {sl:Addr} {vl vu:Value} {lo hi:Option Int} {n:Nat} {Q:Int × Int × Nat->Shared->Prop} (hs:s.heap.IsSliceOf sl vl vu .none) (pl:IsPart vl lo) (pu:IsPart vu hi)
  (h:Q (((bW n 0 lo:Nat):Int),1,bW n n hi - bW n 0 lo) s):wpAny (model prog w) A (Builtin.Slice.sliceApplied (.ref sl) (pure (n:Int))) Q E s:=by
 obtain ⟨os,hos,hcs,hds⟩:=id hs
 unfold Builtin.Slice.sliceApplied Builtin.Slice.sliceFields
 refine wpAny_bind (wpAny_bind (wpAny_field hos hds (x:=vl) rfl (wpAny_bind (wpAny_field hos hds (x:=vu) rfl (wpAny_bind (wpAny_field hos hds (x:=.none) rfl (wpAny_pure ?_)))))))
 refine wpAny_bind (slicePart_none ?_)
 show wpAny _ _ (if ((1:Int) == 0)=true then _ else _) _ _ s
 rw [if_neg (by decide)]
 refine wpAny_bind (AO pl (wpAny_bind (AO pu (wpAny_bind (wpAny_pure ?_)))))
 show wpAny _ _ (match Builtin.Slice.sliceAdjust lo hi 1 (n:Int) with | (lo,hi)=>pure (lo,(1:Int),Builtin.Slice.slicePlaces lo hi 1)) _ _ s
 rw [GU lo hi n]
 show wpAny _ _ (pure (((bW n 0 lo:Nat):Int),(1:Int),Builtin.Slice.slicePlaces ((bW n 0 lo:Nat):Int) ((bW n n hi:Nat):Int) 1)) _ _ s
 rw [HL]
 exact wpAny_pure h
theorem Ms (xs:Array Value) (i k:Nat):((List.range k).filterMap fun (m:Nat)=>xs[((i:Int) + (m:Int) * 1).toNat]?).toArray=((xs.toList.drop i).take k).toArray:=by
 have e:(fun (m:Nat)=>xs[((i:Int) + (m:Int) * 1).toNat]?)=fun m=>xs[i + m]?:=by
  funext m
  have:((i:Int) + (m:Int) * 1).toNat=i + m:=by omega
  rw [this]
 rw [e]
 have:=pick_run xs i k
 rw [List.filterMap_map] at this
 have e2:((fun x=>xs[x]?) ∘ fun x=>i + x)=fun m=>xs[i + m]?:=rfl
 rw [e2] at this
 rw [this]
theorem yS {t sl:Addr} {items:Array Value} {vl vu:Value} {lo hi:Option Int} {Q:Value->Shared->Prop} (ht:IsTup s.heap t items) (hs:s.heap.IsSliceOf sl vl vu .none) (pl:IsPart vl lo) (pu:IsPart vu hi)
  (hw:¬ (bW items.size 0 lo=0/\bW items.size items.size hi=items.size))
  (h:Q (.ref s.heap.objs.size) { s with heap:=s.heap.push { cls:=.type "tuple",data:=.seq ((items.toList.drop (bW items.size 0 lo)).take (bW items.size items.size hi - bW items.size 0 lo)).toArray } })
  (hsz:items.size<=sizeLine):wpAny (model prog w) A (getItem (.ref t) (.ref sl)) Q E s:=by
 have htake:sizeOk (.seq ((items.toList.drop (bW items.size 0 lo)).take (bW items.size items.size hi - bW items.size 0 lo)).toArray):=by
  show ((items.toList.drop (bW items.size 0 lo)).take (bW items.size items.size hi - bW items.size 0 lo)).toArray.size<=sizeLine
  rw [List.size_toArray,List.length_take,List.length_drop,Array.length_toList]
  omega
 have hj:bW items.size items.size hi<=items.size:=Q6 _ _ (Nat.le_refl _) hi
 obtain ⟨os,hos,hcs,hds⟩:=id hs
 have hTs:s.TypeIs (.ref sl) "slice":=⟨os,hos,hcs⟩
 unfold getItem
 try with_reducible refine wpAny_holding ?_
 first | refine wpAny_bind (wpAny_pure ?_) | skip
 refine wpAny_bind (wpAny_sequenceKey ht.typeIs (by decide) ?_)
 refine wpAny_bind (wpAny_callSpecial?_slot (name:=Str.ofString "__getitem__") ht.typeIs PyProof.Rows.slot_tuple_getitem
  (wpAny_call_entry PyProof.Rows.slot_tuple_getitem ht.typeIs entry_tuple_getitem ?_ (args_tuple_getitem _ _)))
 show wpAny _ _ (Builtin.Tuple.tupleItemsOf (.ref t) >>= _) _ _ s
 refine wpAny_bind (tupleItemsOf_ ht ?_)
 refine wpAny_bind (wpAny_typeOf hTs ?_)
 rw [if_pos (by decide)]
 refine wpAny_bind (rC hs pl pu ?_)
 have hno:¬ ((((bW items.size 0 lo:Nat):Int) == 0 && (1:Int) == 1 && (bW items.size items.size hi - bW items.size 0 lo) == items.size)=true):=by
  intro q
  rw [Bool.and_eq_true,Bool.and_eq_true] at q
  have q1:((bW items.size 0 lo:Nat):Int)=0:=eq_of_beq q.1.1
  have q2:bW items.size items.size hi - bW items.size 0 lo=items.size:=eq_of_beq q.2
  exact hw ⟨by omega,by omega⟩
 show wpAny _ _ (if (((bW items.size 0 lo:Nat):Int) == 0 && (1:Int) == 1 && (bW items.size items.size hi - bW items.size 0 lo) == items.size)=true then _ else _) _ _ s
 rw [if_neg hno,Ms]
 first
  | exact wpAny_bind (m:=Builtin.Tuple.tupleExact _) (wpAny_newObj_type (wpAny_pure ⟨_,rfl,wpAny_pure h⟩) htake)
  | exact wpAny_bind (m:=Builtin.Tuple.tupleExact _) (wpAny_newObj_type (wpAny_bind (wpAny_pure (wpAny_pure ⟨_,rfl,wpAny_pure h⟩))) htake)
  | exact wpAny_bind (wpAny_bind (m:=Builtin.Tuple.tupleExact _) (wpAny_newObj_type (wpAny_pure (wpAny_pure ⟨_,rfl,wpAny_pure h⟩)) htake))
  | exact wpAny_bind (wpAny_bind (m:=Builtin.Tuple.tupleExact _) (wpAny_newObj_type (wpAny_pure ⟨_,rfl,wpAny_pure h⟩) htake))
end
end HT
namespace L2
open PySem PySem.Spec PyProof.Rows
noncomputable abbrev TO:=St->Hp->(Option Int->Hp->Prop)->Prop
noncomputable def PO (X:Cx) (e:Option Expr) (t:TO):Prop :=
 ∀ (pins:List (Addr × Obj)) (s:Shared) (σ:St) (H:Hp) (Q:Option Int->Hp->Prop),Inv X pins σ H s->t σ H Q ->
  wpAny (model X.prog X.w) X.A (evalPart e X.env) (fun u s'=>∃ o H',Inv X pins σ H' s'/\IsPart u o/\Q o H') X.xe s
noncomputable def Gz:TO:=fun _ H Q=>Q none H
noncomputable def NS (t:TE):TO:=fun σ H Q=>t σ H fun x H1=>∃ i,x=.int i/\Q (some i) H1
theorem intsAre_of {ns:List Int}:∀ {us:List Value},Vals (ns.map V.int) us->IntsAre us ns:=by
 induction ns with
 | nil=>intro us r;rw [List.map_nil] at r;cases r;exact .nil
 | cons n ns ih =>
  intro us r
  rw [List.map_cons] at r
  cases r with
  | cons r1 r2 =>
   obtain ⟨t,e⟩:=r1
   subst e
   exact .cons n t (ih r2)
section
variable {X:Cx} {e:Expr} {te:TE} {lo hi:Option Expr} {tl th:TO} {pos p2:Pos}
theorem O5:PO X none Gz:=by
 intro pins s σ H Q I h
 rw [evalPart_none]
 exact wpAny_pure ⟨none,H,I,.none,h⟩
theorem Gs (h:PE X e te):PO X (some e) (NS te):=by
 intro pins s σ H Q I hw
 rw [evalPart_some]
 refine bR (h pins s σ H _ I hw) fun u s1 ⟨x,H1,I1,r1,q1⟩=>?_
 obtain ⟨i,rfl,q⟩:=q1
 obtain ⟨t,rfl⟩:=r1
 exact ⟨some i,H1,I1,.int i t,q⟩
noncomputable def y0 (X:Cx) (r:V->Option Int->Option Int->Hp->VK->Prop):Prop :=
 ∀ (pins:List (Addr × Obj)) (s:Shared) (σ:St) (H:Hp) (x:V) (v vl vu:Value) (lo hi:Option Int) (sl:Addr) (Q:VK),Inv X pins σ H s->RelV x v->s.heap.IsSliceOf sl vl vu .none->IsPart vl lo->IsPart vu hi->r x lo hi H Q ->
  ∃ T id,typeLookup (.type T) "__getitem__"=pure (some (.builtin id))/\s.TypeIs v T/\wpAny (model X.prog X.w) X.A (getItem v (.ref sl)) (EP X pins σ Q) X.xe s
theorem y0.or {r r':V->Option Int->Option Int->Hp->VK->Prop} (h:y0 X r) (h':y0 X r'):y0 X (fun x lo hi H Q=>r x lo hi H Q\/r' x lo hi H Q):=by
 intro pins s σ H x v vl vu lo hi sl Q I rx hs pl pu q
 rcases q with q | q
 ·exact h pins s σ H x v vl vu lo hi sl Q I rx hs pl pu q
 ·exact h' pins s σ H x v vl vu lo hi sl Q I rx hs pl pu q
noncomputable def S0 (r:V->Option Int->Option Int->Hp->VK->Prop) (te:TE) (tl th:TO):TE:=fun σ H Q=>te σ H fun x H1=>tl σ H1 fun l H2=>th σ H2 fun u H3=>r x l u H3 Q
theorem ML {r:V->Option Int->Option Int->Hp->VK->Prop} (hr:y0 X r) (he:PE X e te) (hl:PO X lo tl) (hu:PO X hi th):PE X (.Subscript e (.Slice lo hi none p2) pos) (S0 r te tl th):=by
 intro pins s σ H Q I h
 refine Subscript_ (bR (he pins s σ H _ I h) fun v s1 ⟨x,H1,I1,r1,q1⟩=>?_)
 refine wpAny_Slice (bR (hl pins s1 σ H1 _ I1 q1) fun vl s2 ⟨l,H2,I2,pl,q2⟩=>bR (hu pins s2 σ H2 _ I2 q2) fun vu s3 ⟨u,H3,I3,pu,q3⟩=>?_)
 rw [evalPart_none]
 refine wpAny_pure ?_
 have I4:Inv X pins σ H3 { s3 with heap:=s3.heap.push { cls:=.type "slice",data:=.fields #[vl,vu,.none] } }:=I3.kept (t':=s3.toks) fun b ob q=>Heap.get?_push_of_some _ q
 obtain ⟨T,id,hT,ht,hg⟩:=hr pins { s3 with heap:=s3.heap.push { cls:=.type "slice",data:=.fields #[vl,vu,.none] } } σ H3 x v vl vu l u s3.heap.objs.size Q I4 r1 (Heap.IsSliceOf.new ..) pl pu q3
 show wpAny (model X.prog X.w) X.A (subscriptTail e (.Slice lo hi none p2) v (.ref s3.heap.objs.size)) (EP X pins σ Q) X.xe { s3 with heap:=s3.heap.push { cls:=.type "slice",data:=.fields #[vl,vu,.none] } }
 exact tail_any (ops:=[.ref s3.heap.objs.size,v]) ht hT hg (by with_unfolding_all rfl)
noncomputable def sR (xs:List V) (lo hi:Option Int):List V:=(xs.drop (HT.bW xs.length 0 lo)).take (HT.bW xs.length xs.length hi - HT.bW xs.length 0 lo)
theorem zK (xs:List V) (lo hi:Option Int):(sR xs lo hi).length<=xs.length:=by
 unfold sR
 rw [List.length_take,List.length_drop]
 omega
noncomputable def Tc (K:PySem.W.Frag):V->Option Int->Option Int->Hp->VK->Prop:=fun x lo hi H Q=>∃ a xs,x=.ref a/\iO K H a xs /\
 ¬ (HT.bW xs.length 0 lo=0/\HT.bW xs.length xs.length hi=xs.length)/\∀ p,H p=none->Q (.ref p) (upd H p (.tup (sR xs lo hi)))
theorem Qb:y0 X (Tc X.K):=by
 intro pins s σ H x v vl vu lo hi sl Q I rx hs pl pu h
 obtain ⟨a,xs,rfl,hx,hw,q⟩:=h
 cases rx
 obtain ⟨its,r,ht,hz⟩:=I.tuple hx
 have hlen:its.toArray.size=xs.length:=by rw [List.size_toArray];exact r.length.symm
 refine ⟨"tuple",_,PyProof.Rows.slot_tuple_getitem.lookup,ht.typeIs,?_⟩
 refine HT.yS ht hs pl pu (by rw [hlen];exact hw) ?_ (by rw [hlen];exact hz)
 rw [hlen]
 refine ⟨.ref s.heap.objs.size,_,I.laid (t':=s.toks) (o:=.tup (sR xs lo hi)) (fun b ob q=>Heap.get?_push_of_some _ q) (Nat.le_refl _) ?_,rfl,q _ (I.hok.fresh (Nat.le_refl _))⟩
 exact ⟨Nat.le_trans (zK xs lo hi) hz,_,(r.drop (HT.bW xs.length 0 lo)).take (HT.bW xs.length xs.length hi - HT.bW xs.length 0 lo),IsTup.new _ _⟩
noncomputable def Td (K:PySem.W.Frag):R2:=fun x y H Q=>∃ a b ns ms,x=.ref a/\y=.ref b/\iO K H a (ns.map V.int)/\iO K H b (ms.map V.int)/\Q (.bl (HT.lexLt ns ms)) H
theorem RP (hu:X.A.units < cLine):fE X (compareOp .Lt) (Td X.K):=by
 intro pins s σ H x y v u Q I rx ry h
 obtain ⟨a,b,ns,ms,rfl,rfl,ha,hb,q⟩:=h
 cases rx
 cases ry
 obtain ⟨its,r1,p1,_⟩:=I.tuple ha
 obtain ⟨its2,r2,p2,_⟩:=I.tuple hb
 have i1:IntsAre its.toArray.toList ns:=intsAre_of r1
 have i2:IntsAre its2.toArray.toList ms:=intsAre_of r2
 exact HT.Hq p1 p2 i1 i2 hu ⟨.bl (HT.lexLt ns ms),H,I,rfl,q⟩
noncomputable def Sh (K:PySem.W.Frag):R2:=fun x y H Q=>∃ a b xs ys,x=.ref a/\y=.ref b/\iO K H a xs/\iO K H b ys/\xs≠[]/\xs.length + ys.length<=sizeLine /\
 (ys=[]->Q (.ref a) H)/\(ys≠[]->∀ p,H p=none->Q (.ref p) (upd H p (.tup (xs++ys))))
theorem Vals.nil_iff {xs:List V} {us:List Value} (r:Vals xs us):us=[] ↔ xs=[]:=by
 cases r with
 | nil=>simp
 | cons _ _=>simp
theorem OC:fE X (binaryOp .Add) (Sh X.K):=by
 intro pins s σ H x y v u Q I rx ry h
 obtain ⟨a,b,xs,ys,rfl,rfl,ha,hb,hx,hz,q1,q2⟩:=h
 cases rx
 cases ry
 obtain ⟨its,r1,p1,_⟩:=I.tuple ha
 obtain ⟨its2,r2,p2,_⟩:=I.tuple hb
 refine HT.Of p1 p2 (fun z=>hx (r1.nil_iff.mp z)) (fun z=>⟨.ref a,H,I,rfl,q1 (r2.nil_iff.mp z)⟩) (fun z=>?_) (by rw [<- r1.length,<- r2.length];exact hz)
 refine ⟨.ref s.heap.objs.size,_,I.laid (t':=s.toks) (o:=.tup (xs++ys)) (fun b ob q=>Heap.get?_push_of_some _ q) (Nat.le_refl _) ?_,rfl,q2 (fun w=>z (r2.nil_iff.mpr w)) _ (I.hok.fresh (Nat.le_refl _))⟩
 exact ⟨by rw [List.length_append];exact hz,_,r1.append r2,IsTup.new _ _⟩
end
noncomputable def oV (n:Nat) (i:Int):Option Nat:=if 0<=i then (if i < n then some i.toNat else none) else if -(n:Int)<=i then some (i + n).toNat else none
noncomputable def cK {α:Type} (xs:List α) (i:Int):Option α:=(oV xs.length i).bind fun j=>xs[j]?
theorem ON {n:Nat} {i:Int} {j:Nat} (h:oV n i=some j):seqIndex? i n=some j/\j < n/\-(n:Int)<=i/\i < n:=by
 unfold oV at h
 by_cases h0:0<=i
 ·rw [if_pos h0] at h
  by_cases h1:i < n
  ·rw [if_pos h1] at h
   have e:i.toNat=j:=Option.some.inj h
   exact ⟨by rw [seqIndex_of h0 h1,e],by omega,by omega,h1⟩
  ·rw [if_neg h1] at h;cases h
 ·rw [if_neg h0] at h
  by_cases h1:-(n:Int)<=i
  ·rw [if_pos h1] at h
   have e:(i + n).toNat=j:=Option.some.inj h
   exact ⟨by rw [seqIndex_neg (by omega) h1,e],by omega,h1,by omega⟩
  ·rw [if_neg h1] at h;cases h
theorem BJ {α:Type} {xs:List α} {i:Int} {v:α} (h:cK xs i=some v):∃ j,seqIndex? i xs.length=some j/\xs[j]?=some v/\j < xs.length/\-(xs.length:Int)<=i/\i < xs.length:=by
 unfold cK at h
 cases e:oV xs.length i with
 | none=>rw [e] at h;cases h
 | some j =>
  rw [e] at h
  obtain ⟨h1,h2,h3,h4⟩:=ON e
  exact ⟨j,h1,h,h2,h3,h4⟩
theorem fP {α:Type} {xs:List α} {j:Nat} {v:α} (h:xs[j]?=some v):cK xs (j:Int)=some v:=by
 have hj:j < xs.length:=(List.getElem?_eq_some_iff.mp h).1
 have e:oV xs.length (j:Int)=some j:=by
  unfold oV
  rw [if_pos (by omega),if_pos (by omega)];simp
 unfold cK;rw [e];exact h
theorem DE {α:Type} (xs:List α) (v:α):cK (xs++[v]) (-1)=some v:=by
 have hl:(xs++[v]).length=xs.length + 1:=by simp
 have e:oV (xs++[v]).length (-1)=some xs.length:=by
  unfold oV
  rw [hl,if_neg (by decide),if_pos (by omega)]
  congr 1
  omega
 unfold cK
 rw [e]
 show (xs++[v])[xs.length]?=some v
 simp
noncomputable def FW (b:Expr):Prop:=∀ o i,subscripted b false o i=operate [o,i] (getItem o i)
noncomputable def Ax (X:Cx) (r:R2):Prop :=
 ∀ (value slice:Expr) (pins:List (Addr × Obj)) (s:Shared) (σ:St) (H:Hp) (x y:V) (v u:Value) (Q:VK),Inv X pins σ H s->RelV x v->RelV y u->r x y H Q ->
  subscripted slice false v u=operate [v,u] (getItem v u)->wpAny (model X.prog X.w) X.A (subscriptTail value slice v u) (EP X pins σ Q) X.xe s
noncomputable def SN (X:Cx) (id:String) (r:V->List V->Hp->VK->Prop):Prop :=
 ∀ (pins:List (Addr × Obj)) (s:Shared) (σ:St) (H:Hp) (x:V) (xs:List V) (v:Value) (us:List Value) (Q:VK),Inv X pins σ H s->RelV x v->Vals xs us->r x xs H Q ->
  wpAny (model X.prog X.w) X.A (call (.builtin id) (v :: us)) (EP X pins σ Q) X.xe s
section
variable {X:Cx} {a b:Expr} {ta tb:TE} {pos:Pos}
theorem Ax.or {r r':R2} (h:Ax X r) (h':Ax X r'):Ax X (fun x y H Q=>r x y H Q\/r' x y H Q):=by
 intro value slice pins s σ H x y v u Q I rx ry q hs
 rcases q with q | q
 ·exact h value slice pins s σ H x y v u Q I rx ry q hs
 ·exact h' value slice pins s σ H x y v u Q I rx ry q hs
theorem Sx {r:R2} (hr:Ax X r) (ha:PE X a ta) (hb:PE X b tb) (hs:FW b):PE X (.Subscript a b pos) (Gw r ta tb):=by
 intro pins s σ H Q I h
 exact Subscript_ (Mh ha hb I h fun v u s2 x y H2 I2 rx ry q=>hr a b pins s2 σ H2 x y v u Q I2 rx ry q (hs _ _))
noncomputable def Rl (K:PySem.W.Frag):R2:=fun x y H Q=>∃ p xs i v,x=.ref p/\y=.int i/\eT K H p xs/\cK xs i=some v/\Q v H
noncomputable def RA (K:PySem.W.Frag):R2:=fun x y H Q=>∃ p xs i v,x=.ref p/\y=.int i/\iO K H p xs/\cK xs i=some v/\Q v H
noncomputable def Q4:R2:=fun x y H Q=>∃ z i c,x=.str z/\y=.int i/\z.length<=sizeLine/\cK z.cps.toList i=some c/\Q (.str ⟨#[c]⟩) H
theorem OV:Ax X (Rl X.K):=by
 intro value slice pins s σ H x y v u Q I rx ry h hs
 obtain ⟨p,xs,i,z,rfl,rfl,hq,he,q⟩:=h
 cases rx
 obtain ⟨t,rfl⟩:=ry
 obtain ⟨its,r,pl,hz⟩:=I.list hq
 obtain ⟨j,h1,h2,h3,h4,h5⟩:=BJ he
 obtain ⟨w,ew,rw'⟩:=r.get h2
 have hl:=r.length
 have hn:=xD
 have fin:EP X pins σ Q w s:=⟨z,H,I,rw',q⟩
 by_cases h0:0<=i
 ·have hj:i.toNat=j:=by
   rw [seqIndex_of h0 h5] at h1
   exact Option.some.inj h1
  exact item_listR pl.isList h0 (by omega) (by rw [hj];simpa using ew) fin hs
 ·have hj:(i + (its.toArray.size:Int)).toNat=j:=by
   rw [seqIndex_neg (by omega) h4] at h1
   rw [List.size_toArray,<- hl]
   exact Option.some.inj h1
  exact subscriptTail_builtinR (x:=w) pl.isList.typeIs slot_list_getitem.lookup
   (wpAny_getItem_list_neg (Q:=fun r s'=>r=w/\EP X pins σ Q r s') pl.isList (by omega) (by rw [List.size_toArray] <;> omega) (by omega) (by rw [hj];simpa using ew) ⟨rfl,fin⟩) hs
theorem Q5:Ax X (RA X.K):=by
 intro value slice pins s σ H x y v u Q I rx ry h hs
 obtain ⟨p,xs,i,z,rfl,rfl,hq,he,q⟩:=h
 cases rx
 obtain ⟨t,rfl⟩:=ry
 obtain ⟨its,r,pl,hz⟩:=I.tuple hq
 obtain ⟨j,h1,h2,h3,h4,h5⟩:=BJ he
 obtain ⟨w,ew,rw'⟩:=r.get h2
 have hl:=r.length
 have hn:=xD
 have fin:EP X pins σ Q w s:=⟨z,H,I,rw',q⟩
 exact subscriptTail_builtinR (x:=w) pl.typeIs slot_tuple_getitem.lookup
  (getItem_tuple (j:=j) (Q:=fun r s'=>r=w/\EP X pins σ Q r s') pl (by omega) (by omega) (by rw [List.size_toArray,<- hl];exact h1) (by simpa using ew) ⟨rfl,fin⟩) hs
theorem Rt:Ax X Q4:=by
 intro value slice pins s σ H x y v u Q I rx ry h hs
 obtain ⟨z,i,c,rfl,rfl,hz,he,q⟩:=h
 obtain ⟨t,rfl⟩:=rx
 obtain ⟨t',rfl⟩:=ry
 obtain ⟨j,h1,h2,h3,h4,h5⟩:=BJ he
 have hl:z.cps.toList.length=z.length:=by simp [Str.length]
 rw [hl] at h1 h4 h5
 have hn:=xD
 exact tail_any (typeIs_str s z t) slot_str_getitem.lookup (getItem_str (c:=c) (by
  have e1:decide (i < -(2 ^ 63:Int))=false:=decide_eq_false (by omega)
  have e2:decide (i ≥ 2 ^ 63)=false:=decide_eq_false (by omega)
  rw [e1,e2,Bool.or_false]) (by rw [h1];simpa using h2) ⟨.str ⟨#[c]⟩,H,I.tok _,⟨_,rfl⟩,q⟩) hs
noncomputable def S5 (K:PySem.W.Frag):R2:=fun x y H Q=>Rl K x y H Q\/RA K x y H Q\/Q4 x y H Q
theorem QF:Ax X (S5 X.K):=OV.or (Q5.or Rt)
theorem DS (lo hi:Option Int) (n:Nat):(sliceBounds lo hi none n).1=((HT.bW n 0 lo:Nat):Int)/\(sliceBounds lo hi none n).2.1=((HT.bW n n hi:Nat):Int)/\(sliceBounds lo hi none n).2.2=1:=by
 refine ⟨?_,?_,rfl⟩
 ·cases lo with
  | none=>simp [sliceBounds,HT.bW]
  | some i =>
   simp only [sliceBounds,HT.bW,Option.getD_none,show (1:Int) > 0 by decide,if_true]
   by_cases h:i < 0
   ·simp only [h,if_true] <;> omega
   ·simp only [h,if_false] <;> omega
 ·cases hi with
  | none=>simp [sliceBounds,HT.bW]
  | some i =>
   simp only [sliceBounds,HT.bW,Option.getD_none,show (1:Int) > 0 by decide,if_true]
   by_cases h:i < 0
   ·simp only [h,if_true] <;> omega
   ·simp only [h,if_false] <;> omega
theorem CH (its:List Value) (lo hi:Option Int):slicePick its.toArray lo hi none=((its.drop (HT.bW its.length 0 lo)).take (HT.bW its.length its.length hi - HT.bW its.length 0 lo)).toArray:=by
 obtain ⟨h1,h2,h3⟩:=DS lo hi its.toArray.size
 unfold slicePick
 rw [h1,h2,h3]
 simp only [sliceRange_one,pick_run,List.size_toArray] <;> rfl
noncomputable def Th (K:PySem.W.Frag):V->Option Int->Option Int->Hp->VK->Prop:=fun x lo hi H Q=>∃ a xs,x=.ref a/\eT K H a xs/\∀ p,H p=none->Q (.ref p) (upd H p (.lst (sR xs lo hi)))
theorem O7:y0 X (Th X.K):=by
 intro pins s σ H x v vl vu lo hi sl Q I rx hs pl pu h
 obtain ⟨a,xs,rfl,hx,q⟩:=h
 cases rx
 obtain ⟨its,r,ht,hz⟩:=I.list hx
 have hlen:=r.length
 refine ⟨"list",_,slot_list_getitem.lookup,ht.isList.typeIs,?_⟩
 refine wpAny_getItem_list_slice ht.isList hs pl pu .none (by simp) ?_ (by rw [List.size_toArray] <;> omega)
 rw [CH,<- hlen]
 refine ⟨.ref s.heap.objs.size,_,I.laid (t':=s.toks) (o:=.lst (sR xs lo hi)) (fun b ob q=>Heap.get?_push_of_some _ q) (Nat.le_refl _) ?_,rfl,q _ (I.hok.fresh (Nat.le_refl _))⟩
 exact ⟨Nat.le_trans (zK xs lo hi) hz,_,0,(r.drop (HT.bW xs.length 0 lo)).take (HT.bW xs.length xs.length hi - HT.bW xs.length 0 lo),Heap.get?_push_size _ rfl⟩
noncomputable def oE:V->Bool
 | .non=>true
 | .bl _=>true
 | .int _=>true
 | .str _=>true
 | _=>false
noncomputable def A6:V->V->Bool
 | .non,.non=>true
 | .bl a,.bl b=>a == b
 | .bl a,.int b=>(if a then 1 else 0) == b
 | .int a,.bl b=>a == (if b then 1 else 0)
 | .int a,.int b=>a == b
 | .str a,.str b=>a == b
 | _,_=>false
theorem RT {A:Around} {s:Shared} {y x:V} {u v:Value} (ry:RelV y u) (rx:RelV x v) (fy:oE y=true) (fx:oE x=true):SeqAt.EqAt A s u v (A6 y x):=by
 cases y with
 | non =>
  cases ry
  cases x with
  | non=>cases rx;exact SeqAt.EqAt.same _
  | bl b=>cases rx;exact SeqAt.EqAt.none_bool b
  | int b=>obtain ⟨t,rfl⟩:=rx;exact SeqAt.EqAt.none_int b t
  | str b=>obtain ⟨t,rfl⟩:=rx;exact SeqAt.EqAt.none_str b t
  | _=>exact absurd (show false=true from fx) Bool.false_ne_true
 | bl a =>
  cases ry
  cases x with
  | non=>cases rx;exact SeqAt.EqAt.bool_none a
  | bl b=>cases rx;exact SeqAt.EqAt.bool_bool a b
  | int b=>obtain ⟨t,rfl⟩:=rx;exact SeqAt.EqAt.bool_int a b t
  | str b=>obtain ⟨t,rfl⟩:=rx;exact SeqAt.EqAt.bool_str a b t
  | _=>exact absurd (show false=true from fx) Bool.false_ne_true
 | int a =>
  obtain ⟨t',rfl⟩:=ry
  cases x with
  | non=>cases rx;exact SeqAt.EqAt.int_none a t'
  | bl b=>cases rx;exact SeqAt.EqAt.int_bool a t' b
  | int b=>obtain ⟨t,rfl⟩:=rx;exact SeqAt.EqAt.int_int a t' b t
  | str b=>obtain ⟨t,rfl⟩:=rx;exact SeqAt.EqAt.int_str a t' b t
  | _=>exact absurd (show false=true from fx) Bool.false_ne_true
 | str a =>
  obtain ⟨t',rfl⟩:=ry
  cases x with
  | non=>cases rx;exact SeqAt.EqAt.str_none a t'
  | bl b=>cases rx;exact SeqAt.EqAt.str_bool a t' b
  | int b=>obtain ⟨t,rfl⟩:=rx;exact SeqAt.EqAt.str_int a t' b t
  | str b=>obtain ⟨t,rfl⟩:=rx;exact SeqAt.EqAt.str_str a t' b t
  | _=>exact absurd (show false=true from fx) Bool.false_ne_true
 | _=>exact absurd (show false=true from fy) Bool.false_ne_true
noncomputable def qF (x:V) (u:Value):Bool:=match u with
 | .none=>A6 .non x
 | .bool b=>A6 (.bl b) x
 | .int i _=>A6 (.int i) x
 | .str z _=>A6 (.str z) x
 | _=>false
theorem IL {x y:V} {u:Value} (r:RelV y u) (f:oE y=true):qF x u=A6 y x:=by
 cases y with
 | non=>cases r;rfl
 | bl b=>cases r;rfl
 | int i=>obtain ⟨t,rfl⟩:=r;rfl
 | str z=>obtain ⟨t,rfl⟩:=r;rfl
 | _=>exact absurd (show false=true from f) Bool.false_ne_true
theorem tU {x:V}:∀ {xs:List V} {us:List Value},Vals xs us->xs.all oE=true->us.any (qF x)=xs.any fun y=>A6 y x
 | _,_,.nil,_=>rfl
 | y :: xs,u :: us,.cons r t,f=>by
  rw [List.all_cons,Bool.and_eq_true] at f
  rw [List.any_cons,List.any_cons,IL r f.1,tU t f.2]
theorem qP {A:Around} {s:Shared} {x:V} {v:Value} (rx:RelV x v) (fx:oE x=true):∀ {xs:List V} {us:List Value},Vals xs us->xs.all oE=true->∀ u∈us,SeqAt.EqAt A s u v (qF x u)
 | _,_,.nil,_=>fun u hu=>by cases hu
 | y :: xs,u :: us,.cons r t,f=>fun u' hu=>by
  rw [List.all_cons,Bool.and_eq_true] at f
  rcases List.mem_cons.mp hu with rfl | hu
  ·rw [IL r f.1];exact RT r rx f.1 fx
  ·exact qP rx fx t f.2 u' hu
noncomputable def Nk (x:V) (xs:List V):Bool:=xs.any fun y=>A6 y x
noncomputable def Rx (K:PySem.W.Frag) (neg:Bool):R2:=fun x y H Q=>∃ p xs,y=.ref p/\(eT K H p xs\/iO K H p xs)/\oE x=true/\xs.all oE=true/\Q (.bl (if neg then !Nk x xs else Nk x xs)) H
theorem JU:fE X (compareOp .In) (Rx X.K false):=by
 intro pins s σ H x y v u Q I rx ry h
 obtain ⟨p,xs,rfl,hq,fx,fs,q⟩:=h
 cases ry
 rcases hq with hq | hq
 ·obtain ⟨its,r,pl,hz⟩:=I.list hq
  refine SeqAt.in_listAt (qF x) pl.isList (fun w hw=>qP rx fx r fs w (by simpa using hw)) ⟨.bl _,H,I,rfl,?_⟩
  rw [show its.toArray.any (qF x)=its.any (qF x) by simp,tU r fs]
  exact q
 ·obtain ⟨its,r,pl,hz⟩:=I.tuple hq
  refine SeqAt.in_tupleAt (qF x) pl (fun w hw=>qP rx fx r fs w (by simpa using hw)) ⟨.bl _,H,I,rfl,?_⟩
  rw [show its.toArray.any (qF x)=its.any (qF x) by simp,tU r fs]
  exact q
theorem Er:fE X (compareOp .NotIn) (Rx X.K true):=by
 intro pins s σ H x y v u Q I rx ry h
 obtain ⟨p,xs,rfl,hq,fx,fs,q⟩:=h
 cases ry
 rcases hq with hq | hq
 ·obtain ⟨its,r,pl,hz⟩:=I.list hq
  refine SeqAt.notIn_listAt (qF x) pl.isList (fun w hw=>qP rx fx r fs w (by simpa using hw)) ⟨.bl _,H,I,rfl,?_⟩
  rw [show its.toArray.any (qF x)=its.any (qF x) by simp,tU r fs]
  exact q
 ·obtain ⟨its,r,pl,hz⟩:=I.tuple hq
  refine SeqAt.notIn_tupleAt (qF x) pl (fun w hw=>qP rx fx r fs w (by simpa using hw)) ⟨.bl _,H,I,rfl,?_⟩
  rw [show its.toArray.any (qF x)=its.any (qF x) by simp,tU r fs]
  exact q
theorem h8.or {f:Value} {r r':List V->Hp->VK->Prop} (h:h8 X f r) (h':h8 X f r'):h8 X f (fun xs H Q=>r xs H Q\/r' xs H Q):=by
 intro pins s σ H xs us Q I rs q
 rcases q with q | q
 ·exact h pins s σ H xs us Q I rs q
 ·exact h' pins s σ H xs us Q I rs q
theorem DR:h8 X (.type "list") (fun xs H Q=>∃ p ys,xs=[.ref p]/\(eT X.K H p ys\/iO X.K H p ys)/\∀ l,H l=none->Q (.ref l) (upd H l (.lst ys))):=by
 intro pins s σ H xs us Q I r h
 obtain ⟨p,ys,rfl,hq,q⟩:=h
 obtain ⟨u,rfl,rx⟩:=vals1 r
 cases rx
 have fin:∀ (its:List Value),Vals ys its->ys.length<=sizeLine->∀ (h':Heap) (c':Nat),(∀ b o',s.heap.get? b=some o'->h'.get? b=some o') ->
   h'.get? s.heap.objs.size=some { cls:=.type "list",dict:=none,data:=.seq its.toArray c',slots:=#[] }->EP X pins σ Q (.ref s.heap.objs.size) { s with heap:=h' }:=fun its r' hz h' c' kp e =>
  ⟨.ref s.heap.objs.size,_,I.laid (t':=s.toks) kp (Nat.le_refl _) (show c6 X.prog X.w _ h' _ (.lst ys) from ⟨hz,its,c',r',e⟩),rfl,q _ (I.hok.fresh (Nat.le_refl _))⟩
 rcases hq with hq | hq
 ·obtain ⟨its,r',pl,hz⟩:=I.list hq
  have hlen:=r'.length
  obtain ⟨o,ho,hc,n,hd⟩:=pl.isList
  exact call_list_seq p (.inl rfl) ho hc hd (fun h' c' kp e=>fin its r' hz h' c' kp e) (by simp only [List.size_toArray] <;> omega)
 ·obtain ⟨its,r',pl,hz⟩:=I.tuple hq
  have hlen:=r'.length
  obtain ⟨o,ho,hc,n,hd⟩:=pl
  exact call_list_seq p (.inr rfl) ho hc hd (fun h' c' kp e=>fin its r' hz h' c' kp e) (by simp only [List.size_toArray] <;> omega)
theorem CQ:h8 X (.type "tuple") (fun xs H Q=>∃ p ys,xs=[.ref p]/\((eT X.K H p ys/\∀ l,H l=none->Q (.ref l) (upd H l (.tup ys)))\/(iO X.K H p ys/\Q (.ref p) H))):=by
 intro pins s σ H xs us Q I r h
 obtain ⟨p,ys,rfl,h⟩:=h
 obtain ⟨u,rfl,rx⟩:=vals1 r
 cases rx
 rcases h with ⟨hq,q⟩ | ⟨hq,q⟩
 ·obtain ⟨its,r',pl,hz⟩:=I.list hq
  have hlen:=r'.length
  refine call_tuple_list pl.isList (fun h' kp=>?_) (by simp only [List.size_toArray] <;> omega)
  have I1:Inv X pins σ H { s with heap:=h' }:=I.kept (t':=s.toks) kp
  have I2:Inv X pins σ (upd H h'.objs.size (.tup ys)) { s with heap:=h'.push { cls:=.type "tuple",data:=.seq its.toArray } } :=
   I1.laid (t':=s.toks) (fun b o e=>Heap.get?_push_of_some _ e) (Nat.le_refl _) (show c6 X.prog X.w _ _ _ (.tup ys) from ⟨hz,its,r',IsTup.new _ _⟩)
  exact ⟨.ref h'.objs.size,_,I2,rfl,q _ (I1.hok.fresh (Nat.le_refl _))⟩
 ·obtain ⟨its,r',pl,hz⟩:=I.tuple hq
  exact call_tuple_same pl ⟨.ref p,H,I,rfl,q⟩
noncomputable def Np (K:PySem.W.Frag) (T:String) (x:V) (H:Hp):Prop:=match x with
 | .str _=>T="str"
 | .int _=>T="int"
 | .ref p=>(T="list"/\∃ xs,eT K H p xs)\/(T="tuple"/\∃ o,K.lookup p=some o/\o.cls=.type "tuple"/\o.dict=none) \/
   (T="dict"/\((∃ kvs,H p=some (.dK kvs))\/∃ kvs,H p=some (.dT kvs)))\/(T="set"/\∃ S n,H p=some (.set S n))
 | _=>False
theorem Jl {pins:List (Addr × Obj)} {σ:St} {H:Hp} {s:Shared} {T:String} {x:V} {v:Value} (I:Inv X pins σ H s) (r:RelV x v) (ty:Np X.K T x H) :
  s.TypeIs v T/\∀ a,v=.ref a->∃ ob,s.heap.get? a=some ob/\ob.dict=none:=by
 cases x with
 | str z =>
  obtain ⟨t,rfl⟩:=r
  cases (show T="str" from ty)
  exact ⟨typeIs_str s z t,fun _ e=>nomatch e⟩
 | int i =>
  obtain ⟨t,rfl⟩:=r
  cases (show T="int" from ty)
  exact ⟨typeIs_int s i t,fun _ e=>nomatch e⟩
 | ref p =>
  cases r
  rcases ty with ⟨rfl,xs,hq⟩ | ⟨rfl,o,hk,hc,hd⟩ | ⟨rfl,hk⟩ | ⟨rfl,S,n,hk⟩
  ·obtain ⟨its,_,pl,_⟩:=I.list hq
   refine ⟨pl.isList.typeIs,fun a e=>?_⟩
   cases e
   obtain ⟨o,n,e,c,hd,_⟩:=pl
   exact ⟨o,e,hd⟩
  ·refine ⟨⟨o,I.kIn p o hk,hc⟩,fun a e=>?_⟩
   cases e
   exact ⟨o,I.kIn _ o hk,hd⟩
  ·have z:∃ o,s.heap.get? p=some o/\o.ExactDict:=by
    rcases hk with ⟨kvs,hk⟩ | ⟨kvs,hk⟩
    ·obtain ⟨_,_,_,_,o,_,_,e,ex,_⟩:=I.hok p _ hk
     exact ⟨o,e,ex⟩
    ·obtain ⟨_,_,_,_,o,_,_,e,ex,_⟩:=I.hok p _ hk
     exact ⟨o,e,ex⟩
   obtain ⟨o,e,ex⟩:=z
   refine ⟨⟨o,e,ex.1⟩,fun a e2=>?_⟩
   cases e2
   exact ⟨o,e,ex.2.1⟩
  ·obtain ⟨o,_,_,_,e,ex,_⟩:=I.hok p _ hk
   refine ⟨⟨o,e,ex.1⟩,fun a e2=>?_⟩
   cases e2
   exact ⟨o,e,ex.2.1⟩
 | _=>exact False.elim ty
noncomputable def QZ (K:PySem.W.Frag) (T:String) (r:V->List V->Hp->VK->Prop) (to:TE):TE:=fun σ H Q=>to σ H fun x H1=>Np K T x H1/\r x [] H1 Q
noncomputable def S4 (K:PySem.W.Frag) (T:String) (r:V->List V->Hp->VK->Prop) (to:TE) (t:TA):TE:=fun σ H Q=>to σ H fun x H1=>Np K T x H1/\t σ H1 fun xs H2=>r x xs H2 Q
variable {o e:Expr} {es:List Expr} {to:TE} {t:TA} {name:Str} {apos cpos:Pos} {T id:String} {r:V->List V->Hp->VK->Prop}
theorem RQ (pa:PlainAttrs T) (slot:Slot T name id) (hty:typeOf (.builtin id)=pure (.type "method_descriptor")) (hm:SN X id r) (ho:PE X o to)
  (hbase:attributeBase o name X.env (eval o X.env)=eval o X.env:=by rfl) (hline:(apos.endLine == cpos.line)=true:=by rfl):PE X (.Call (.Attribute o name apos) [] [] cpos) (QZ X.K T r to):=by
 intro pins s σ H Q I h
 refine wpAny_Call_method0_late hbase hline (bR (ho pins s σ H _ I h) fun v s1 ⟨x,H1,I1,r1,ty,q1⟩=>?_)
 obtain ⟨h1,h2⟩:=Jl I1 r1 ty
 exact ⟨T,id,pa,slot,hty,h1,h2,Calls.callWith_builtin rfl (PySem.evalArgs_none (hm pins s1 σ H1 x [] v [] Q I1 r1 .nil q1))⟩
theorem HD (pa:PlainAttrs T) (slot:Slot T name id) (hty:typeOf (.builtin id)=pure (.type "method_descriptor")) (hm:SN X id r) (ho:PE X o to) (ha:PA X (e :: es) t)
  (hbase:attributeBase o name X.env (eval o X.env)=eval o X.env:=by rfl)
  (hfew:((backTo cpos (starEach (e :: es) X.env)).all (fun x=>!x.1) && (backToKw cpos (keywordEach [] X.env)).all (fun x=>x.1.isSome)
   && decide ((e :: es).length + ([]:List Keyword).length + (if ([]:List Keyword).isEmpty then 0 else 1) < 30))=true:=by rfl)
  (hline:(apos.endLine == cpos.line)=true:=by rfl) (hs:starEach (e :: es) X.env=(false,eval e X.env) :: starEach es X.env:=by rfl) (hplain:(backTo cpos (starEach es X.env)).any (·.1)=false:=by rfl) :
  PE X (.Call (.Attribute o name apos) (e :: es) [] cpos) (S4 X.K T r to t):=by
 intro pins s σ H Q I h
 refine wpAny_Call_method_late hbase hfew hline rfl (bR (ho pins s σ H _ I h) fun v s1 ⟨x,H1,I1,r1,ty,q1⟩=>?_)
 obtain ⟨h1,h2⟩:=Jl I1 r1 ty
 refine ⟨T,id,pa,slot,hty,h1,h2,?_⟩
 have hA:=ha cpos pins s1 σ H1 _ I1 q1
 rw [hs] at hA ⊢
 refine Calls.callWith_builtin (by show (false || (backTo cpos (starEach es X.env)).any (·.1))=false;rw [hplain] <;> rfl) (Calls.evalArgs_plain ?_)
 exact bR hA fun us s2 ⟨vs,H2,I2,r2,q2⟩=>hm pins s2 σ H2 x vs v us Q I2 r1 r2 q2
end
noncomputable def Nr (X:Cx) (id:String) (r:V->List V->Hp->VK->Prop):Prop :=
 ∀ (pins:List (Addr × Obj)) (s:Shared) (σ:St) (H:Hp) (x:V) (xs:List V) (v:Value) (us:List Value) (Q:VK),Inv X pins σ H s->RelV x v->Vals xs us->r x xs H Q ->
  wpAny (model X.prog X.w) X.A (call (.builtin id) (v :: us)) (EP X pins σ Q) X.xe s
theorem Vals.one:∀ {x:V} {us:List Value},Vals [x] us->∃ u,us=[u]/\RelV x u
 | _,_,.cons r .nil=>⟨_,rfl,r⟩
theorem Vals.zero:∀ {us:List Value},Vals [] us->us=[]
 | _,.nil=>rfl
theorem Vals.dropLast {xs:List V} {us:List Value} (h:Vals xs us):Vals xs.dropLast us.dropLast:=by
 induction h with
 | nil=>exact .nil
 | cons r t ih =>
  cases t with
  | nil=>exact .nil
  | cons q t'=>exact .cons r ih
theorem Vals.eraseIdx:∀ {xs:List V} {us:List Value} (i:Nat),Vals xs us->Vals (xs.eraseIdx i) (us.eraseIdx i)
 | _,_,_,.nil=>.nil
 | _,_,0,.cons _ t=>t
 | _,_,i + 1,.cons r t=>.cons r (Vals.eraseIdx i t)
theorem Vals.rep {xs:List V} {us:List Value} (h:Vals xs us):∀ k:Nat,Vals (List.replicate k xs).flatten (List.replicate k us).flatten
 | 0=>.nil
 | k + 1=>by
  rw [List.replicate_succ,List.replicate_succ,List.flatten_cons,List.flatten_cons]
  exact Vals.append h (Vals.rep h k)
theorem HW {α:Type} (l:List α):l.eraseIdx (l.length - 1)=l.dropLast:=by
 induction l with
 | nil=>rfl
 | cons a r ih =>
  cases r with
  | nil=>rfl
  | cons b r =>
   have e:(a :: b :: r).length - 1=((b :: r).length - 1) + 1:=by
    have h1:(a :: b :: r).length=r.length + 2:=rfl
    have h2:(b :: r).length=r.length + 1:=rfl
    omega
   rw [e,List.eraseIdx_cons_succ,ih]
   all_goals rfl
theorem Ci {α:Type}:∀ (l:List α) (i:Nat),(l.eraseIdx i).length<=l.length
 | [],_=>Nat.le_refl _
 | _ :: _,0=>Nat.le_succ _
 | _ :: r,i + 1=>Nat.succ_le_succ (Ci r i)
theorem foldl_rep (its:List Value):∀ (k:Nat) (acc:List Value),
  List.foldl (fun x1 x2=>x1++x2) acc.toArray (List.replicate k its.toArray)=(acc++(List.replicate k its).flatten).toArray
 | 0,acc=>by simp
 | k + 1,acc=>by
  have e:acc.toArray++its.toArray=(acc++its).toArray:=by simp
  have e2:(acc++its)++(List.replicate k its).flatten=acc++(List.replicate (k + 1) its).flatten:=by
   rw [List.replicate_succ,List.flatten_cons,List.append_assoc]
  rw [<- e2,<- foldl_rep its k (acc++its),<- e,List.replicate_succ,List.foldl_cons]
section
variable {X:Cx} {pins:List (Addr × Obj)} {σ:St} {H:Hp} {s:Shared} {l b:Addr} {xs ys zs:List V}
theorem Inv.lset {its its':List Value} {n:Nat} {f:Array Value->Array Value} {t':Nat} (I:Inv X pins σ H s) (hH:H l=some (.lst xs))
  (e:s.heap.get? l=some { cls:=.type "list",data:=.seq its.toArray n }) (hf:f its.toArray=its'.toArray) (hv:Vals ys its') (hz:ys.length<=sizeLine) :
  Inv X pins σ (upd H l (.lst ys)) { s with heap:=s.heap.update l (Obj.mapSeq f),toks:=t' }:=by
 have q:=PySem.IsL.update e f
 rw [hf] at q
 refine I.write (x:=l) (e:=l) (by rw [hH];exact trivial) (.inl rfl) (fun b' u hb hu=>(Heap.get?_update_other s.heap (Obj.mapSeq f) (Ne.symm hb)).trans hu) ⟨_,q⟩ ?_
 exact ⟨hz,its',_,hv,q⟩
theorem Inv.lnew {its:List Value} {t':Nat} (I:Inv X pins σ H s) (hv:Vals ys its) (hz:ys.length<=sizeLine) :
  Inv X pins σ (upd H s.heap.objs.size (.lst ys)) { s with heap:=s.heap.push { cls:=.type "list",data:=.seq its.toArray },toks:=t' } :=
 I.laid (fun _ _ q=>Heap.get?_push_of_some _ q) (Nat.le_refl _) ⟨hz,its,0,hv,Heap.get?_push_size _ rfl⟩
theorem Inv.fresh (I:Inv X pins σ H s):H s.heap.objs.size=none:=I.hok.fresh (Nat.le_refl _)
theorem Inv.lstM (I:Inv X pins σ H s) (hH:H l=some (.lst xs)):xs.length<=sizeLine/\∃ (its:List Value) (n:Nat),Vals xs its/\xs.length=its.length/\s.heap.get? l=some { cls:=.type "list",data:=.seq its.toArray n }:=by
 obtain ⟨z,its,n,r,e⟩:=I.hok l _ hH
 exact ⟨z,its,n,r,r.length,e⟩
theorem uJ {n:Nat} (h:n<=sizeLine):Builtin.List.listTooLong n=false:=by
 unfold Builtin.List.listTooLong
 exact decide_eq_false (by omega)
end
section
variable {X:Cx}
noncomputable def FX:V->List V->Hp->VK->Prop:=fun x vs H Q=>∃ l xs y,x=.ref l/\vs=[y]/\H l=some (.lst xs)/\xs.length < sizeLine/\Q .non (upd H l (.lst (xs++[y])))
theorem Co:Nr X "list.append" FX:=by
 intro pins s σ H x vs v us Q I rx rv h
 obtain ⟨l,xs,y,rfl,rfl,hH,hz,q⟩:=h
 cases rx
 obtain ⟨u,rfl,ru⟩:=rv.one
 obtain ⟨z,its,n,r,hl,e⟩:=I.lstM hH
 refine call_meets F.slot_list_append ⟨_,e,rfl⟩ F.entry_list_append (F.args_list_append_2 _ _) (PySem.list_append l its.toArray n u (by rw [List.size_toArray];omega)) ⟨e,?_⟩
 refine ⟨.non,_,I.lset (its':=its++[u]) hH e (by simp) (r.append (.cons ru .nil)) ?_,rfl,q⟩
 rw [List.length_append,List.length_singleton]
 omega
noncomputable def RK:V->List V->Hp->VK->Prop:=fun x vs H Q=>∃ l xs y,x=.ref l/\vs=[]/\H l=some (.lst xs)/\xs[xs.length - 1]?=some y/\Q y (upd H l (.lst xs.dropLast))
theorem QL:Nr X "list.pop" RK:=by
 intro pins s σ H x vs v us Q I rx rv h
 obtain ⟨l,xs,y,rfl,rfl,hH,hy,q⟩:=h
 cases rx
 have hus:=rv.zero
 subst hus
 obtain ⟨z,its,n,r,hl,e⟩:=I.lstM hH
 obtain ⟨u,hu,ru⟩:=r.get hy
 have hy':its.toArray[its.toArray.size - 1]?=some u:=by
  show its.toArray[its.length - 1]?=some u
  rw [<- Array.getElem?_toList,<- hl]
  exact hu
 refine call_meets F.slot_list_pop ⟨_,e,rfl⟩ F.entry_list_pop (F.args_list_pop_1 _) (MeetsSeq.list_pop_last l its.toArray n u hy' (by rw [List.size_toArray];omega)) ⟨e,?_⟩
 refine ⟨y,_,I.lset (its':=its.dropLast) hH e ?_ r.dropLast ?_,ru,q⟩
 ·show its.toArray.eraseIdxIfInBounds (its.toArray.size - 1)=its.dropLast.toArray
  rw [List.size_toArray,List.eraseIdxIfInBounds_toArray,HW]
 ·rw [List.length_dropLast]
  omega
noncomputable def Jm:V->List V->Hp->VK->Prop:=fun x vs H Q=>∃ l xs i k y,x=.ref l/\vs=[.int i]/\H l=some (.lst xs)/\-(2 ^ 63)<=i/\i < 2 ^ 63/\seqIndex? i xs.length=some k/\xs[k]?=some y/\Q y (upd H l (.lst (xs.eraseIdx k)))
theorem L1:Nr X "list.pop" Jm:=by
 intro pins s σ H x vs v us Q I rx rv h
 obtain ⟨l,xs,i,k,y,rfl,rfl,hH,h1,h2,hk,hy,q⟩:=h
 cases rx
 obtain ⟨u,rfl,ru⟩:=rv.one
 obtain ⟨t,rfl⟩:=ru
 obtain ⟨z,its,n,r,hl,e⟩:=I.lstM hH
 obtain ⟨w,hw,rw'⟩:=r.get hy
 refine call_meets F.slot_list_pop ⟨_,e,rfl⟩ F.entry_list_pop (F.args_list_pop_2 _ _)
  (MeetsSeq.list_pop_at l its.toArray n i t k w (fitsIndex_both h1 h2) (by rw [List.size_toArray,<- hl];exact hk) (by rw [<- Array.getElem?_toList];exact hw) (by rw [List.size_toArray];omega)) ⟨e,?_⟩
 refine ⟨y,_,I.lset (its':=its.eraseIdx k) hH e ?_ (r.eraseIdx k) ?_,rw',q⟩
 ·show its.toArray.eraseIdxIfInBounds k=(its.eraseIdx k).toArray
  rw [List.eraseIdxIfInBounds_toArray]
 ·have:=Ci xs k
  omega
noncomputable def Qs:R2:=fun x y H Q=>∃ l k xs,x=.ref l/\y=.int k/\H l=some (.lst xs)/\-(2 ^ 63)<=k/\k < 2 ^ 63/\xs.length * k.toNat<=sizeLine /\
 ∀ p,H p=none->Q (.ref p) (upd H p (.lst (List.replicate k.toNat xs).flatten))
theorem len_rep {α:Type} (xs:List α) (k:Nat):(List.replicate k xs).flatten.length=k * xs.length:=by
 induction k with
 | zero=>simp
 | succ k ih=>rw [List.replicate_succ,List.flatten_cons,List.length_append,ih,Nat.succ_mul,Nat.add_comm]
theorem Q0:fE X (binaryOp .Mult) Qs:=by
 intro pins s σ H x y v u Q I rx ry h
 obtain ⟨l,k,xs,rfl,rfl,hH,h1,h2,hz,q⟩:=h
 cases rx
 obtain ⟨t,rfl⟩:=ry
 obtain ⟨z,its,n,r,hl,e⟩:=I.lstM hH
 have hlen:its.toArray.size * k.toNat<=sizeLine:=by rw [List.size_toArray,<- hl];exact hz
 have hcap:¬ its.toArray.size * k.toNat > (2 ^ 63 - 1) / 8:=by
  have:(sizeLine:Nat)<=(2 ^ 63 - 1) / 8:=by decide
  omega
 have hfit:¬ (!Builtin.List.listFitsIndex k)=true:=by
  rw [fitsIndex_both h1 h2]
  exact Bool.false_ne_true
 have hlong:¬ Builtin.List.listTooLong (its.toArray.size * k.toNat)=true:=by
  rw [uJ hlen]
  exact Bool.false_ne_true
 have hnew:List.foldl (fun x1 x2=>x1++x2) #[] (List.replicate (if its.toArray.isEmpty=true then 0 else k.toNat) its.toArray)=(List.replicate k.toNat its).flatten.toArray:=by
  have f0:∀ m:Nat,List.foldl (fun x1 x2=>x1++x2) #[] (List.replicate m its.toArray)=(List.replicate m its).flatten.toArray:=fun m=>by
   have:=foldl_rep its m []
   rw [List.nil_append] at this
   exact this
  rw [f0]
  cases its with
  | nil=>simp
  | cons a r'=>rw [if_neg (by simp)]
 refine wpAny_binaryOp_repeat_ref (T:="list") (U:="int") (by decide) ⟨_,e,rfl⟩ (fun s'=>typeIs_int s' k t) noFill_list_mul F.fills_int_mul F.slot_int_rmul repeat_list F.slot_int_index.lookup
  (call_meets F.slot_int_rmul (typeIs_int s k t) F.entry_int_rmul (F.args_int_rmul_2 _ _) (int___rmul___int_list k t l its.toArray n)
   ⟨e,rfl,⟨_,e,rfl⟩,call_meets F.slot_list_mul ⟨_,e,rfl⟩ F.entry_list_mul (F.args_list_mul_2 _ _) (AutoListH.list___mul___list_int_3 l its.toArray n k t hfit hcap hlong) ⟨e,?_⟩⟩)
 rw [hnew]
 exact ⟨.ref _,_,I.lnew (t':=s.toks) (r.rep k.toNat) (by rw [len_rep,Nat.mul_comm];exact hz),rfl,q _ I.fresh⟩
end
section
variable {prog:Program} {w:World} {A:Around} {E:Value->Shared->Prop} {s:Shared}
theorem Jo (its its2:List Value) (a c:Nat):its.toArray.extract 0 a++its2.toArray++its.toArray.extract c its.toArray.size=(its.take a++its2++its.drop c).toArray:=by
  apply Array.toList_inj.mp
  first
    | (simp
       exact List.take_of_length_le (by simp))
    | simp [List.take_of_length_le]
    | simp
end
section
variable {X:Cx}
end
end L2
namespace Att
open PySem PySem.W PySem.Calls PyProof.Rows
theorem A9 {P:Params} {h:Heap}:∀ (ns:List Int) (vs:List Value),WellAll P h vs (ns.map WData.int)->IntsAre vs ns:=by
 intro ns
 induction ns with
 | nil =>
  intro vs w
  rw [List.map_nil] at w
  cases w
  exact .nil
 | cons n ns ih =>
  intro vs w
  rw [List.map_cons] at w
  cases w with
  | cons a b =>
   cases a
   exact .cons _ _ (ih _ b)
theorem JQ {l:OpenLaw} {n:Nat} (hn:l.most=some n) {P:Params} {h:Heap} {args:List WData} {vals:List Value}
  (hpre:l.row.toRowW.claim.pre args=true) (hwl:WellAll P h vals args) :
  ∃ a vs ns,vals=[Value.ref a]/\args=[WData.list (ns.map WData.int)]/\h.get? a=some { cls:=.type "list",data:=.seq vs.toArray }/\IntsAre vs ns/\ns.length<=n:=by
 have hsh:WShape.hasAll [] args [.list .int]=true:=(pre_splitW hpre).1
 have hc:l.pre.holds [] { args:=args }=true:=(pre_splitW hpre).2
 obtain ⟨d,r,rfl,h1,h2⟩:=hasAllW_cons hsh
 obtain rfl:=hasAllW_nil h2
 obtain ⟨xs,rfl,h3⟩:=hasW_list h1
 obtain ⟨ns,rfl⟩:=items_int h3
 have hlen:ns.length<=n:=by
  unfold OpenLaw.pre at hc
  have h4:(WTm.not (.lt (.lit (.int (n:Int))) (.len (.arg 0)))).holds [] { args:=[.list (ns.map .int)] }=true:=by
   have h4:=(holds_andW hc).1
   rw [hn] at h4
   exact h4
  have h5:=condW_of h4 (w_not (w_lt w_lit (w_len_list (w_arg rfl))))
  rw [List.length_map] at h5
  refine Nat.le_of_not_lt fun q=>?_
  have q':(n:Int) < ((ns.length:Nat):Int):=by omega
  first
   | (rw [decide_eq_true q'] at h5;exact absurd h5 (by decide))
   | (simp at h5;omega)
 cases hwl with
 | cons w1 w2 =>
  cases w2
  cases w1 with
  | list ho hall=>exact ⟨_,_,ns,rfl,rfl,ho,A9 ns _ hall,hlen⟩
theorem Kg (l:OpenLaw) (args:List WData):l.row.toRowW.claim.post args (.bool true) args=true :=
 postW_of (r:=l.row.toRowW) (X:=(true == true))
  (show WShape.has [] (.bool true) .bool=true by first | rfl | decide | simp [WShape.has,WShape.arms,WShape.armsAll])
  (show (WTm.eq .res (.lit (.bool true))).value [] { args:=args,res:=some (.bool true),after:=args }=some (.bool (true == true)) from w_eq_bool (w_res rfl) w_lit) rfl
theorem attach_call {l:OpenLaw} {n:Nat} {q:Program} {loose:List Str} {XP:(Str->Option Value)->Heap->Prop} {YP:World->Heap->Prop} {d:DefRec}
  (hn:l.most=some n) (hdf:d.params.defaults=[])
  (call:∀ (w:World) (s₀ s₁:Shared) (mg mb:Str->Option Value) (fa:Addr) (o:Obj) (pm cd doc:Value) (a:Addr) (vs:List Value) (ns:List Int),
   Ground q loose [] XP w s₀ mg mb s₁.heap->YP w s₁.heap ->
   s₁.heap.get? fa=some o->o.data=.func (docDef d.name d.params d.body d.scope pm cd doc)->s₁.heap.CodeRec cd d.name->mg d.name=some (.ref fa) ->
   s₁.heap.get? a=some { cls:=.type "list",data:=.seq vs.toArray }->IntsAre vs ns->ns.length<=n->s₁.gens=#[] ->
   codeAny (model l.prog w) callerA (.call (.ref fa) ⟨[.ref a],[]⟩) (fun r s'=>r=.ok (.ret (.bool true))/\OldK s₁.heap s'.heap/\s'.os=s₁.os/\AllBare s'.gens) s₁) :
  WalkO q loose XP YP l.row.toRowW d [] (fun f vs=>PySem.call f vs):=by
 intro w s₀ s₁ mg mb G Y fa o pm cd doc dV kV ho hd hcd hD hmg hg args vals as hpre hlay hrd hwl hlo
 obtain rfl:dV=.none:=Dflts.none hD hdf
 obtain rfl:kV=.none:=Dflts.noKw hD
 obtain ⟨a,vs,ns,rfl,rfl,hobj,hints,hlen⟩:=JQ hn hpre hwl
 refine enter_call (codeAny_mono (call w s₀ s₁ mg mb fa o pm cd doc a vs ns G Y ho (fd_plain hd) hcd hmg hobj hints hlen hg) fun r s' hq=>?_)
 obtain ⟨rfl,h2,h3,h4⟩:=hq
 exact ⟨.inl ⟨.bool true,.bool true,[],rfl,fun _=>rfl,.bool true,Kg l _,fun _=>⟨List.Pairwise.nil,fun _ hm=>(nomatch hm)⟩⟩,h2,h3,h4⟩
section
variable {prog:Program} {w:World} {A:Around} {E:Value->Shared->Prop} {s:Shared} {K:Frag}
end
end Att
namespace L2
open PySem PySem.Spec PyProof.Rows
theorem Cm:∀ {vs:List Value} {ns:List Int},IntsAre vs ns->Vals (ns.map V.int) vs
 | _,_,.nil=>.nil
 | _,_,.cons n t h=>.cons ⟨t,rfl⟩ (Cm h)
noncomputable def L5 (H:Hp):Prop:=∀ b,H b=none\/∃ o xs,H b=some (.frz o (.lst xs))
theorem MK {P:Program} {w:World} {K:PySem.W.Frag} {mg mb:Str->Option Value} {CX:wD} {k:Nat} {fa a:Addr} {fd:FuncData} {x:Str} {sp:Sp} {s₁:Shared} {vs:List Value} {ns:List Int}
  (KX:K.In s₁.heap) (hns:s₁.heap.Ns mainGlobals mg) (hb:s₁.heap.Ns builtinsNs mb) (hbb:∀ x:Str,x≠"__name__"->mb x=bootBuiltins x) (hlim:s₁.heap.NoLimit) (hg:s₁.gens=#[])
  (ha:s₁.heap.get? a=some { cls:=.type "list",data:=.seq vs.toArray }) (hi:IntsAre vs ns) (hl:ns.length<=sizeLine) (hr:iT k callerA)
  (F:∀ base:Heap,K.In base->base.Ns mainGlobals mg->mD P w K mg base CX k fa fd [x] sp) (hbind:∀ (s:Shared) (u:Value),BindsTo s fd ⟨[u],[]⟩ [(x,u)])
  (hsp:∀ H:Hp,L5 H->eT K H a (ns.map V.int)->sp [.ref a] H (fun v _=>v=.bl true) fun _ _ _=>False)
  (hCX:∀ H e s',CX [] H s₁ (fun _ _ _=>False) e s'->False) :
  codeAny (model P w) callerA (.call (.ref fa) ⟨[.ref a],[]⟩) (fun r s'=>r=.ok (.ret (.bool true))/\OldK s₁.heap s'.heap/\s'.os=s₁.os/\AllBare s'.gens) s₁:=by
 have rv:=Cm hi
 have lenV:=hi.length
 have core:∀ H:Hp,L5 H->eT K H a (ns.map V.int)->iU P w H s₁.heap->(∀ b,H b≠none->b=a)->(H a≠none->K.lookup a=none) ->
   codeAny (model P w) callerA (.call (.ref fa) ⟨[.ref a],[]⟩) (fun r s'=>r=.ok (.ret (.bool true))/\OldK s₁.heap s'.heap/\s'.os=s₁.os/\AllBare s'.gens) s₁:=by
  intro H hO hS hok hA hK
  have base_of:∀ {b:Addr} {o:Obj},s₁.heap.get? b=some o->H b=none->(u7 s₁.heap H).get? b=some o:=fun e n=>LQ e n
  have noA:∀ {b:Addr} {o:Obj} {es:Array DictEntry} {ep:Nat},s₁.heap.get? b=some o->o.data=.dict es ep->H b=none:=fun {b o es ep} e d=>by
   cases q:H b with
   | none=>rfl
   | some u =>
    have e':b=a:=hA b (by rw [q];simp)
    subst e'
    rw [ha] at e;cases e
    have d':Data.seq vs.toArray _=Data.dict es ep:=d
    cases d'
  have nsK:∀ {b:Addr} {m:Str->Option Value},s₁.heap.Ns b m->(u7 s₁.heap H).Ns b m:=fun {b m} ⟨o,es,ep,e,d,r⟩=>⟨o,es,ep,base_of e (noA e d),d,r⟩
  have hKb:K.In (u7 s₁.heap H):=fun b o e=>base_of (KX b o e) (by
   cases q:H b with
   | none=>rfl
   | some u =>
    have e':b=a:=hA b (by rw [q];simp)
    subst e'
    rw [hK (by rw [q];simp)] at e;cases e)
  have hM:Mod K mg (u7 s₁.heap H):=⟨hKb,nsK hns,⟨mb,nsK hb,hbb⟩,let ⟨mc,h1,h2⟩:=hlim;⟨mc,nsK h1,h2⟩⟩
  have e0:GI P w K mg (u7 s₁.heap H) callerA [] s₁ H:=⟨rfl,hM,fun b o e=>PL e,Nat.le_of_eq (Ki _ _),trivial,fun b hb=>absurd (show b∈([]:List Addr) from hb) (by simp),hok,.of_eq hg⟩
  refine codeAny_mono ((F _ hKb (nsK hns)).run callerA [] s₁ H ⟨[.ref a],[]⟩ [.ref a] [.ref a] _ _ hr e0 (hbind s₁ (.ref a)) (.cons rfl .nil) (hsp H hO hS)) fun r s' h=>?_
  cases r with
  | error e=>exact (hCX H e s' h).elim
  | ok fl =>
   cases fl with
   | next=>exact False.elim h
   | brk=>exact False.elim h
   | cont=>exact False.elim h
   | ret u =>
    obtain ⟨v,H',os,bare,un,hok',r',q⟩:=h
    have q':v=.bl true:=q
    subst q'
    obtain rfl:u=Value.bool true:=r'
    refine ⟨rfl,OldK.of_keep fun b o e=>?_,os,bare⟩
    cases q:H b with
    | none=>exact un.keep b o e q (by intro z;exact absurd (show b∈([]:List Addr) from z) (by simp)) (by simp)
    | some u =>
     rcases hO b with z | ⟨ob,xs,z⟩
     ·rw [q] at z;cases z
     ·have z2:=un.frzs b ob _ z
      obtain ⟨e1,_⟩:=hok b _ z
      obtain ⟨e2,_⟩:=hok' b _ z2
      rw [e] at e1;cases e1
      exact e2
 cases hk:K.lookup a with
 | some o =>
  have e:=KX a o hk
  rw [ha] at e
  cases e
  refine core (fun _=>none) (fun _=>.inl rfl) (.inr ⟨_,vs.toArray,_,hk,rfl,rfl,rfl,by rw [List.size_toArray,lenV];exact hl,by simpa using rv⟩) (fun b u z=>by have z':(none:Option HO)=some u:=z;cases z') (fun b z=>absurd rfl z) fun z=>absurd rfl z
 | none =>
  refine core (fun b=>if b=a then some (.frz { cls:=.type "list",data:=.seq vs.toArray } (.lst (ns.map V.int))) else none) (fun b=>?_) (.inl (.inr ⟨{ cls:=.type "list",data:=.seq vs.toArray },if_pos rfl⟩)) (fun b u z=>?_) (fun b z=>?_) fun _=>hk
  ·by_cases hb:b=a
   ·exact .inr ⟨_,_,if_pos hb⟩
   ·exact .inl (if_neg hb)
  ·by_cases hb:b=a
   ·have z':=(if_pos hb).symm.trans z
    cases z'
    subst hb
    exact ⟨ha,by rw [List.length_map];exact hl,vs,_,rv,ha⟩
   ·have z':=(if_neg hb).symm.trans z
    cases z'
  ·by_cases hb:b=a
   ·exact hb
   ·exact absurd (if_neg hb) z
theorem PB {l:PySem.W.OpenLaw} {n k:Nat} {q:Program} {loose:List Str} {XP:(Str->Option Value)->Heap->Prop} {YP:World->Heap->Prop} {d:DefRec} {K:Params->PySem.W.Frag} {CX:World->wD} {sp:World->Sp} {x:Str}
  (hn:l.most=some n) (hn2:n<=sizeLine) (hdf:d.params.defaults=[]) (hr:iT k callerA)
  (hY:∀ (w:World) (h:Heap),YP w h->(K w.params).In h)
  (F:∀ (w:World) (mg:Str->Option Value) (fa:Addr) (h:Heap),(K w.params).In h->h.Ns mainGlobals mg->mg d.name=some (.ref fa) ->
   ∃ fd:FuncData,(∀ (s:Shared) (u:Value),BindsTo s fd ⟨[u],[]⟩ [(x,u)]) /\
    ∀ base:Heap,(K w.params).In base->base.Ns mainGlobals mg->mD l.prog w (K w.params) mg base (CX w) k fa fd [x] (sp w))
  (hsp:∀ (w:World) (H:Hp) (a:Addr) (ns:List Int),ns.length<=n->L5 H->eT (K w.params) H a (ns.map V.int)->sp w [.ref a] H (fun v _=>v=.bl true) fun _ _ _=>False)
  (hCX:∀ (w:World) (H:Hp) (s:Shared) (e:Value) (s':Shared),CX w [] H s (fun _ _ _=>False) e s'->False) :
  PySem.W.WalkO q loose XP YP l.row.toRowW d [] (fun f vs=>PySem.call f vs):=by
 refine Att.attach_call hn hdf fun w s₀ s₁ mg mb fa o pm cd doc a vs ns G Y ho hd hcd hmg hobj hints hlen hg=>?_
 have KX:=hY w _ Y
 obtain ⟨fd,hb,hF⟩:=F w mg fa _ KX G.T.g hmg
 exact MK KX G.T.g G.T.b G.T.builtins G.T.nolimit hg hobj hints (Nat.le_trans hlen hn2) hr hF hb (fun H hO hS=>hsp w H a ns hlen hO hS) fun H e s'=>hCX w H s₁ e s'
end L2
namespace L2
open PySem PySem.Spec PyProof.Rows
noncomputable def kY (s:Stmt):Arguments:=match s with
 | .FunctionDef _ a _ _ _ _ _ _ _ _=>a
 | _=>{ posonlyargs:=[],args:=[],vararg:=none,kwonlyargs:=[],kw_defaults:=[],kwarg:=none,defaults:=[] }
noncomputable def iQ (s:Stmt):List Stmt:=match s with
 | .FunctionDef _ _ b _ _ _ _ _ _ _=>b
 | _=>[]
noncomputable def aT (s:Stmt):Scope:=match s with
 | .FunctionDef _ _ _ _ _ _ sc _ _ _=>sc
 | _=>{ kind:=.function,names:=[],isGenerator:=false,isCoroutine:=false }
noncomputable abbrev zF:wD:=fun _ _ _ _ _ _=>False
noncomputable abbrev E0:XK:=fun _ _ _=>False
theorem R3 {X:Cx}:Passes zF X E0:=fun _ _ _ _ _ _ _ h=>h.elim
structure cW (K:PySem.W.Frag) (x qual:Str) (st:Stmt) (f:Addr) (fd:FuncData):Prop where
 ex:∃ (oc:Value) (od:Option Addr) (kV doc pm:Value) (an:Option Addr) (cdv ct:Value) (osl:Array (Option Value)),
  fd=PySem.W.fnOf x qual (kY st) (iQ st) (aT st) .none kV doc pm an cdv ct/\K.lookup f=some ⟨oc,od,.func fd,osl⟩/\PySem.W.codeIn K cdv qual=true
 kp:PySem.W.keepIn K (.ref f)=true
section
variable {P:Program} {w:World} {K:PySem.W.Frag} {mg:Str->Option Value} {base:Heap}
theorem cW.ok {x qual:Str} {st:Stmt} {f:Addr} {fd:FuncData} {N ps:List Str} {k:Nat} {sp:Sp} (F:cW K x qual st f fd) (S:bC N ps (aT st)) (len:∀ vs H Q E,sp vs H Q E->vs.length=ps.length)
  (hbody:∀ (cdv:Value) (A:Around) (outer:List Env) (s:Shared) (H:Hp) (vs:List V) (Q:VK) (E:XK),iT k (A.deeper (envOfC qual (aT st) s.heap.objs.size f cdv))->sp vs H Q E ->
   ∃ t,rT (Bk zF P w K mg base N qual (aT st) f cdv A outer s H E).nox (iQ st) t/\t { nx:=fun _ H'=>Q .non H',rt:=Q } (start N vs) H):mD P w K mg base zF (k + 1) f fd ps sp:=by
 obtain ⟨oc,od,kV,doc,pm,an,cdv,ct,osl,rfl,lk,hcd⟩:=F.ex
 refine SH lk hcd S len fun A outer s H vs Q E hr hsp=>?_
 obtain ⟨t,h,q⟩:=hbody cdv A outer s H vs Q E hr hsp
 exact ⟨t,h.nox,q⟩
theorem cW.binds {x qual:Str} {st:Stmt} {f:Addr} {fd:FuncData} {ps:List Str} (F:cW K x qual st f fd)
  (h:∀ (kV doc pm:Value) (an:Option Addr) (cdv ct:Value) (us:List Value),us.length=ps.length->bindArgs (PySem.W.fnOf x qual (kY st) (iQ st) (aT st) .none kV doc pm an cdv ct) ⟨us,[]⟩=pure (ps.zip us)):Binds K fd ps []:=by
 obtain ⟨oc,od,kV,doc,pm,an,cdv,ct,osl,rfl,lk,hcd⟩:=F.ex
 exact .all (h kV doc pm an cdv ct)
theorem Lc {x qual:Str} {st:Stmt} {f:Addr} {oc:Value} {od an:Option Addr} {osl:Array (Option Value)} {kV doc pm cdv ct:Value} (l:K.lookup f=some ⟨oc,od,.func (PySem.W.fnOf x qual (kY st) (iQ st) (aT st) .none kV doc pm an cdv ct),osl⟩)
  (c:PySem.W.codeIn K cdv qual=true) (k:PySem.W.keepIn K (.ref f)=true):cW K x qual st f (PySem.W.fnOf x qual (kY st) (iQ st) (aT st) .none kV doc pm an cdv ct):=⟨⟨oc,od,kV,doc,pm,an,cdv,ct,osl,rfl,l,c⟩,k⟩
end
theorem Hz {A:Around} {k:Nat} (hr:iT k A):A.units + 1 < cLine:=Nat.lt_of_le_of_lt (Nat.add_le_add_left (by decide:1<=64) _) hr.units
section
variable {X:Cx}
end
theorem gX {c A B:Prop} [Decidable c] (h1:c->A) (h2:¬ c->B):if c then A else B:=by
 by_cases h:c
 ·rw [if_pos h]
  exact h1 h
 ·rw [if_neg h]
  exact h2 h
section
variable {κ:Type} [DecidableEq κ]
noncomputable def kB (kvs:List (κ × V)) (k:κ):Option V:=(kvs.find? fun kv=>decide (kv.1=k)).map (·.2)
noncomputable def putK (kvs:List (κ × V)) (k:κ) (v:V):List (κ × V) :=
 if (kvs.any fun kv=>decide (kv.1=k))=true then kvs.map (fun kv=>if kv.1=k then (kv.1,v) else kv) else kvs++[(k,v)]
noncomputable def vA (kvs:List (κ × V)) (k:κ):List (κ × V):=kvs.filter fun kv=>decide (kv.1≠k)
theorem kF {p:κ × V} {r:List (κ × V)} {k:κ} (e:p.1=k):kB (p :: r) k=some p.2:=by simp [kB,List.find?_cons,e]
theorem kN {p:κ × V} {r:List (κ × V)} {k:κ} (e:¬ p.1=k):kB (p :: r) k=kB r k:=by simp [kB,List.find?_cons,e]
theorem zS (k:κ):∀ kvs:List (κ × V),(kvs.any fun kv=>decide (kv.1=k))=(kB kvs k).isSome
 | []=>rfl
 | p :: r=>by
  rw [List.any_cons]
  by_cases e:p.1=k
  ·simp only [kF e,decide_eq_true e,Bool.true_or,Option.isSome_some]
  ·rw [kN e,decide_eq_false e,Bool.false_or];exact zS k r
theorem MJ (k j:κ) (y:V):∀ kvs:List (κ × V),kB (kvs.map fun kv=>if kv.1=k then (kv.1,y) else kv) j=(kB kvs j).map fun x=>if j=k then y else x
 | []=>rfl
 | p :: r=>by
  have ih:=MJ k j y r
  rw [List.map_cons]
  by_cases h:p.1=k
  ·rw [if_pos h]
   by_cases e:p.1=j
   ·rw [kF (p:=(p.1,y)) e,kF e,Option.map_some,if_pos (e.symm.trans h)]
   ·rw [kN (p:=(p.1,y)) e,kN e,ih]
  ·rw [if_neg h]
   by_cases e:p.1=j
   ·rw [kF (p:=p) e,kF e,Option.map_some,if_neg (fun z=>h (e.trans z))]
   ·rw [kN (p:=p) e,kN e,ih]
theorem tE (kvs:List (κ × V)) (k:κ) (v:V):(putK kvs k v).length<=kvs.length + 1:=by
 unfold putK
 split
 ·rw [List.length_map];omega
 ·rw [List.length_append,List.length_cons,List.length_nil];omega
theorem S9 {kvs:List (κ × V)} {k:κ} (v:V) (h:kB kvs k=none):putK kvs k v=kvs++[(k,v)]:=by
 unfold putK
 rw [zS,h]
 exact if_neg (by decide)
theorem nO.isSome_eq {o:Option V} {u:Option Value} (r:nO o u):o.isSome=u.isSome:=by
 cases o with
 | none=>cases u with
  | none=>rfl
  | some _=>exact (show False from r).elim
 | some _=>cases u with
  | none=>exact (show False from r).elim
  | some _=>rfl
theorem nO.getD {o:Option V} {u:Option Value} {d:V} {d':Value} (r:nO o u) (rd:RelV d d'):RelV (o.getD d) (u.getD d'):=by
 cases o with
 | none=>cases u with
  | none=>exact rd
  | some _=>exact (show False from r).elim
 | some _=>cases u with
  | none=>exact (show False from r).elim
  | some _=>exact r
theorem KV.val {kvs:List (κ × V)} {vs:List (κ × Value)} (r:KV kvs vs) (k:κ):nO (kB kvs k) (valueAt vs k):=by
 unfold KV at r
 induction r with
 | nil=>exact True.intro
 | @cons p q ps qs h t ih =>
  obtain ⟨h1,h2⟩:=h
  by_cases e:p.1=k
  ·have e':q.1=k:=h1.symm.trans e
   have b:valueAt (q :: qs) k=some q.2:=by simp [valueAt,List.find?_cons,e']
   rw [kF e,b];exact h2
  ·have e':¬ q.1=k:=fun z=>e (h1.trans z)
   have b:valueAt (q :: qs) k=valueAt qs k:=by simp [valueAt,List.find?_cons,e']
   rw [kN e,b];exact ih
theorem KV.any {kvs:List (κ × V)} {vs:List (κ × Value)} (r:KV kvs vs) (k:κ):(kvs.any fun kv=>decide (kv.1=k))=vs.any fun kv=>decide (kv.1=k):=by
 unfold KV at r
 induction r with
 | nil=>rfl
 | cons h t ih=>rw [List.any_cons,List.any_cons,ih,h.1]
theorem KV.repl {kvs:List (κ × V)} {vs:List (κ × Value)} (r:KV kvs vs) (k:κ) {y:V} {u:Value} (ry:RelV y u) :
  KV (kvs.map fun kv=>if kv.1=k then (kv.1,y) else kv) (vs.map fun kv=>if kv.1=k then (kv.1,u) else kv):=by
 unfold KV at r ⊢
 induction r with
 | nil=>exact .nil
 | @cons p q ps qs h t ih =>
  rw [List.map_cons,List.map_cons]
  refine .cons ?_ ih
  obtain ⟨h1,h2⟩:=h
  by_cases e:p.1=k
  ·rw [if_pos e,if_pos (h1.symm.trans e)];exact ⟨h1,ry⟩
  ·rw [if_neg e,if_neg (fun z=>e (h1.trans z))];exact ⟨h1,h2⟩
theorem KV.put {kvs:List (κ × V)} {vs:List (κ × Value)} (r:KV kvs vs) (k:κ) {y:V} {u:Value} (ry:RelV y u):KV (putK kvs k y) (stored vs k u):=by
 unfold putK stored
 rw [r.any k]
 by_cases e:(vs.any fun kv=>decide (kv.1=k))=true
 ·rw [if_pos e,if_pos e];exact r.repl k ry
 ·rw [if_neg e,if_neg e];exact Paired.snoc r ⟨rfl,ry⟩
theorem KV.length {kvs:List (κ × V)} {vs:List (κ × Value)} (r:KV kvs vs):kvs.length=vs.length:=Paired.length r
end
theorem A3 {P:Program} {w:World} {k:Key} {u:Value} (r:RelV (kV k) u):(dS P w).is k u=true:=by
 cases k with
 | inl i=>obtain ⟨t,e⟩:=(show ∃ t,u=Value.int i t from r);subst e;exact E2 P w i t
 | inr x=>obtain ⟨t,e⟩:=(show ∃ t,u=Value.str x t from r);subst e;exact FE P w x t
theorem PZ {a b:Key} (e:kV a=kV b):a=b:=by
 cases a with
 | inl i=>cases b with
  | inl j=>have e':V.int i=V.int j:=e;injection e' with e';rw [e']
  | inr y=>exact nomatch (show V.int i=V.str y from e)
 | inr x=>cases b with
  | inl j=>exact nomatch (show V.str x=V.int j from e)
  | inr y=>have e':V.str x=V.str y:=e;injection e' with e';rw [e']
theorem Ol:∀ {a b:List Key},a.map kV=b.map kV->a=b
 | [],[],_=>rfl
 | [],_ :: _,e=>by simp at e
 | _ :: _,[],e=>by simp at e
 | x :: xs,y :: ys,e=>by
  rw [List.map_cons,List.map_cons] at e
  injection e with e1 e2
  rw [PZ e1,Ol e2]
theorem B8 {P:Program} {w:World}:∀ {ks:List Key} {us:List Value},Vals (ks.map kV) us->ItemsAre (dS P w) ks us
 | [],_,r=>by rw [List.map_nil] at r;cases r;exact .nil
 | k :: ks,_,r=>by
  rw [List.map_cons] at r
  cases r with
  | cons h t=>exact .cons (A3 h) (B8 t)
noncomputable abbrev rK (H:Hp):List (List Key × V)->List (List Key × Addr × Value)->Prop:=Paired fun p q=>p.1=q.1/\H q.2.1=some (.tup (p.1.map kV))/\RelV p.2 q.2.2
theorem rK.val {H:Hp} {kvs:List (List Key × V)} {xs:List (List Key × Addr × Value)} (r:rK H kvs xs) (k:List Key):nO (kB kvs k) ((atKey xs k).map (·.2)):=by
 induction r with
 | nil=>exact True.intro
 | @cons p q ps qs h t ih =>
  obtain ⟨h1,_,h2⟩:=h
  by_cases e:p.1=k
  ·have e':q.1=k:=h1.symm.trans e
   have b:atKey (q :: qs) k=some q.2:=by simp [atKey,List.find?_cons,e']
   rw [kF e,b];exact h2
  ·have e':¬ q.1=k:=fun z=>e (h1.trans z)
   have b:atKey (q :: qs) k=atKey qs k:=by simp [atKey,List.find?_cons,e']
   rw [kN e,b];exact ih
theorem rK.repl {H:Hp} {kvs:List (List Key × V)} {xs:List (List Key × Addr × Value)} (r:rK H kvs xs) (k:List Key) {y:V} {u:Value} (ry:RelV y u) :
  rK H (kvs.map fun kv=>if kv.1=k then (kv.1,y) else kv) (xs.map (putAt k u)):=by
 induction r with
 | nil=>exact .nil
 | @cons p q ps qs h t ih =>
  rw [List.map_cons,List.map_cons]
  refine .cons ?_ ih
  obtain ⟨h1,h2,h3⟩:=h
  unfold putAt
  by_cases e:p.1=k
  ·rw [if_pos e,if_pos (h1.symm.trans e)];exact ⟨h1,h2,ry⟩
  ·rw [if_neg e,if_neg (fun z=>e (h1.trans z))];exact ⟨h1,h2,h3⟩
theorem rK.put {H:Hp} {kvs:List (List Key × V)} {xs:List (List Key × Addr × Value)} (r:rK H kvs xs) (k:List Key) {b:Addr} {y:V} {u:Value} (hb:H b=some (.tup (k.map kV))) (ry:RelV y u) :
  rK H (putK kvs k y) (storedH xs k b u):=by
 have e:(kvs.any fun kv=>decide (kv.1=k))=(atKey xs k).isSome:=by
  rw [zS,(r.val k).isSome_eq,Option.isSome_map]
 unfold putK storedH
 rw [e]
 by_cases q:(atKey xs k).isSome=true
 ·rw [if_pos q,if_pos q];exact r.repl k ry
 ·rw [if_neg q,if_neg q];exact Paired.snoc r ⟨rfl,hb,ry⟩
theorem rK.keeps {H H':Hp} {kvs:List (List Key × V)} {xs:List (List Key × Addr × Value)} (r:rK H kvs xs) (ht:∀ b ys,H b=some (.tup ys)->H' b=some (.tup ys)):rK H' kvs xs :=
 Paired.mapP r fun _ _ z=>⟨z.1,ht _ _ z.2.1,z.2.2⟩
section
variable {P:Program} {w:World} {H:Hp} {h:Heap} {a:Addr}
theorem Nv {u:HO} (ok:iU P w H h) (e:Rd H a u):c6 P w H h a u:=e.ok ok
theorem AX {kvs:List (Key × V)} (ok:iU P w H h) (e:Rd H a (.dK kvs)):kvs.length<=sizeLine/\(a == sysModules)=false/\∃ vs,KV kvs vs/\h.DictOf (dS P w) a vs :=
 show c6 P w H h a (.dK kvs) from Nv ok e
theorem Ng {kvs:List (Key × V)} (ok:iU P w H h) (e:H a=some (.dK kvs)):kvs.length<=sizeLine/\(a == sysModules)=false/\∃ vs,KV kvs vs/\h.DictOf (dS P w) a vs:=AX ok (.inl e)
theorem Ak {ks:List Key} (ok:iU P w H h) (e:H a=some (.tup (ks.map kV))):(tupleKind (dS P w)).is h ks a:=by
 obtain ⟨_,its,r,o,h1,h2,n,h3⟩:=(show c6 P w H h a (.tup (ks.map kV)) from ok a _ e)
 exact ⟨o,its.toArray,n,h1,h2,h3,by simpa using B8 r⟩
theorem Bd {kvs:List (List Key × V)} (ok:iU P w H h) (e:Rd H a (.dT kvs)):kvs.length<=sizeLine/\(a == sysModules)=false /\
  ∃ xs,rK H kvs xs/\h.DictOfH (tupleKind (dS P w)) a xs:=by
 obtain ⟨z,y,xs,r,o,es,ep,h1,h2,h3,h4,h5⟩:=(show c6 P w H h a (.dT kvs) from Nv ok e)
 refine ⟨z,y,xs,r,o,es,ep,h1,h2,h3,h4,fun x hx=>?_,h5⟩
 have all:∀ {l:List (List Key × V)} {m:List (List Key × Addr × Value)},rK H l m->∀ x∈m,(tupleKind (dS P w)).is h x.1 x.2.1:=by
  intro l m q
  induction q with
  | nil=>intro x hx;exact nomatch hx
  | @cons p q ps qs hq t ih =>
   intro x hx
   rcases List.mem_cons.mp hx with e | hx
   ·subst e
    exact Ak ok (by rw [<- hq.1];exact hq.2.1)
   ·exact ih x hx
 exact all r x hx
theorem Sb {kvs:List (List Key × V)} (ok:iU P w H h) (e:H a=some (.dT kvs)):kvs.length<=sizeLine/\(a == sysModules)=false /\
  ∃ xs,rK H kvs xs/\h.DictOfH (tupleKind (dS P w)) a xs:=Bd ok (.inl e)
end
noncomputable def Aa (H:Hp) (a:Addr) (y:V) (r:Option V):Prop :=
 (∃ kvs k,Rd H a (.dK kvs)/\y=kV k/\r=kB kvs k)\/∃ kvs k b,Rd H a (.dT kvs)/\y=.ref b/\H b=some (.tup (k.map kV))/\r=kB kvs k
noncomputable def Bn (H:Hp) (a:Addr) (y v:V) (H':Hp):Prop :=
 (∃ kvs k,H a=some (.dK kvs)/\y=kV k/\kvs.length < sizeLine/\H'=upd H a (.dK (putK kvs k v))) \/
 ∃ kvs k b,H a=some (.dT kvs)/\y=.ref b/\H b=some (.tup (k.map kV))/\kvs.length < sizeLine/\H'=upd H a (.dT (putK kvs k v))
theorem Bn.k {H:Hp} {a:Addr} {kvs:List (Key × V)} {k:Key} {v:V} (e:H a=some (.dK kvs)) (hl:kvs.length < sizeLine):Bn H a (kV k) v (upd H a (.dK (putK kvs k v))):=.inl ⟨kvs,k,e,rfl,hl,rfl⟩
theorem Bn.t {H:Hp} {a b:Addr} {kvs:List (List Key × V)} {k:List Key} {v:V} (e:H a=some (.dT kvs)) (eb:H b=some (.tup (k.map kV))) (hl:kvs.length < sizeLine) :
  Bn H a (.ref b) v (upd H a (.dT (putK kvs k v))):=.inr ⟨kvs,k,b,e,rfl,eb,hl,rfl⟩
section
variable {X:Cx} {pins:List (Addr × Obj)} {σ:St} {H:Hp} {s:Shared} {a:Addr} {y v:V} {u r:Value} {o:Option V} {A:Around} {E:Value->Shared->Prop}
theorem Inv.big (I:Inv X pins σ H s):sysModules < s.heap.objs.size:=by
 have h:mainGlobals < s.heap.objs.size:=(I.mod.glob.keeps I.bk).lt
 exact Nat.lt_trans (by decide) h
theorem JN {Q:Value->Shared->Prop} (hu:A.units + 1 < cLine) (I:Inv X pins σ H s) (g:Aa H a y (some v)) (ry:RelV y u) (h:∀ w' s',Inv X pins σ H s'->RelV v w'->Q w' s') :
  wpAny (model X.prog X.w) A (getItem (.ref a) u) Q E s:=by
 rcases g with ⟨kvs,k,e,ey,l⟩ | ⟨kvs,k,b,e,ey,eb,l⟩
 ·subst ey
  obtain ⟨z,hd,vs,rel,dd⟩:=AX I.hok e
  obtain ⟨w',hw,rw'⟩:=nO.some_of (v:=v) (o:=valueAt vs k) (by rw [l];exact rel.val k)
  exact wpAny_getItem_of (A3 ry) dd.mapOf hw (h w' _ (I.tok _) rw')
 ·subst ey
  cases (show u=Value.ref b from ry)
  obtain ⟨z,hd,xs,rel,dd⟩:=Bd I.hok e
  obtain ⟨w',hw,rw'⟩:=nO.some_of (v:=v) (o:=(atKey xs k).map (·.2)) (by rw [l];exact rel.val k)
  obtain ⟨p,hp,hp2⟩:=Option.map_eq_some_iff.mp hw
  refine wpAny_getItem_heap (tupleKind_room_in1 hu) (Ak I.hok eb) dd hp ?_
  rw [hp2]
  exact h w' _ (I.tok _) rw'
theorem BB {h':Heap} {t':Nat} {ob:HO} (I:Inv X pins σ H s) (mu:Ke (H a)) (hs:Heap.SameBut a s.heap h') (he:∃ q,h'.get? a=some q) (new:c6 X.prog X.w (upd H a ob) h' a ob) :
  Inv X pins σ (upd H a ob) { s with heap:=h',toks:=t' } :=
 I.write (x:=a) (e:=a) mu (.inl rfl) (fun b q hb z=>(hs.2 b hb).trans z) he new
theorem Jv {P:Program} {w:World} {H':Hp} {h':Heap} {kvs:List (Key × V)} {vs:List (Key × Value)} (z:kvs.length<=sizeLine) (hd:(a == sysModules)=false) (rel:KV kvs vs) (dd:h'.DictOf (dS P w) a vs) :
  c6 P w H' h' a (.dK kvs):=⟨z,hd,vs,rel,dd⟩
theorem KU {H':Hp} {Q:Unit->Shared->Prop} (hu:A.units + 1 < cLine) (I:Inv X pins σ H s) (g:Bn H a y v H') (ry:RelV y u) (rv:RelV v r) (h:∀ s',Inv X pins σ H' s'->Q () s') :
  wpAny (model X.prog X.w) A (setItem (.ref a) u r) Q E s:=by
 rcases g with ⟨kvs,k,e,ey,l,eH⟩ | ⟨kvs,k,b,e,ey,eb,l,eH⟩
 ·subst ey eH
  obtain ⟨z,hd,vs,rel,dd⟩:=Ng I.hok e
  have hz:vs.length<=sizeLine:=by rw [<- rel.length];exact z
  have hl:(putK kvs k v).length<=sizeLine:=by have:=tE kvs k v;omega
  refine wpAny_setItem_pairs (hsz:=hz) (A3 ry) dd fun h' dd' hs=>h _ ?_
  have he:∃ q,h'.get? a=some q:=let ⟨q,_,_,hq,_⟩:=dd';⟨q,hq⟩
  exact BB I (by rw [e];exact True.intro) hs he (Jv hl hd (rel.put k rv) dd')
 ·subst ey eH
  cases (show u=Value.ref b from ry)
  obtain ⟨z,hd,xs,rel,dd⟩:=Sb I.hok e
  have hz:xs.length<=sizeLine:=by rw [<- Paired.length rel];exact z
  have hl:(putK kvs k v).length<=sizeLine:=by have:=tE kvs k v;omega
  refine wpAny_setItem_heap (hsz:=hz) (tupleKind_room_in1 hu) (Ak I.hok eb) dd fun h' dd' hs=>h _ ?_
  obtain ⟨q,es,ep,hq,h2,h3,h4,_,h5⟩:=dd'
  refine BB I (by rw [e];exact True.intro) hs ⟨q,hq⟩ ⟨hl,hd,_,(rel.put k eb rv).keeps fun c ys ec=>?_,q,es,ep,hq,h2,h3,h4,h5⟩
  rw [cF (Sq ec e (fun z=>nomatch z))]
  exact ec
end
section
variable {X:Cx} {pins:List (Addr × Obj)} {σ:St} {H:Hp} {s:Shared} {a:Addr} {kvs:List (Key × V)} {k:Key} {u:Value} {A:Around} {E:Value->Shared->Prop}
end
noncomputable def LC (i:Expr):Prop:=∀ ov iv,subscripted i false ov iv=operate [ov,iv] (getItem ov iv)
theorem Pc {prog:Program} {w:World} {A:Around} {E:Value->Shared->Prop} {s:Shared} {env:Env} {value slice:Expr} {pos:Pos} {T id:String} {Q:Value->Shared->Prop}
  (hl:typeLookup (.type T) "__getitem__"=pure (some (.builtin id))) (hs:LC slice)
  (h:wpAny (model prog w) A (eval value env) (fun o s₁=>wpAny (model prog w) A (eval slice env) (fun i s₂=>s₂.TypeIs o T/\wpAny (model prog w) A (getItem o i) Q E s₂) E s₁) E s) :
  wpAny (model prog w) A (eval (.Subscript value slice pos) env) Q E s:=by
 refine Subscript_ (wpAny_mono h (fun o s₁ h₁=>wpAny_mono h₁ (fun i s₂ h₂=>?_) fun _ _ x=>x) fun _ _ x=>x)
 obtain ⟨hT,h₂⟩:=h₂
 unfold subscriptTail
 refine wpAny_bind ?_
 rw [getitemInPython_of_ne hT.not_modules]
 refine wpAny_bind (wpAny_specialOf hT hl ?_)
 have fin:wpAny (model prog w) A (subscripted slice false o i) (fun r s₃=>wpAny (model prog w) A (letTemporaryGo value o r >>= fun _=>pure r) Q E s₃) E s₂:=by
  rw [hs o i]
  exact wpAny_operating (wpAny_mono h₂ (fun r s₃ h₃=>wpAny_bind (wpAny_letTemporaryGo (wpAny_pure h₃))) fun _ _ x=>x)
 first
  | exact wpAny_pure (wpAny_bind fin)
  | exact wpAny_bind (wpAny_pure (wpAny_bind fin))
  | exact wpAny_bind fin
theorem Ft {X:Cx} {pins:List (Addr × Obj)} {σ:St} {H:Hp} {s:Shared} {a:Addr} {y:V} {o:Option V} (I:Inv X pins σ H s) (g:Aa H a y o):s.TypeIs (.ref a) "dict":=by
 rcases g with ⟨kvs,k,e,_,_⟩ | ⟨kvs,k,b,e,_,_,_⟩
 ·obtain ⟨_,_,vs,_,dd⟩:=AX I.hok e
  exact dd.typeIs
 ·obtain ⟨_,_,xs,_,dd⟩:=Bd I.hok e
  exact dd.typeIs
noncomputable def Ss (td ty:TE):TE:=fun σ H Q=>td σ H fun x H1=>ty σ H1 fun y H2=>∃ a v,x=.ref a/\Aa H2 a y (some v)/\Q v H2
noncomputable def SI (td ty tv:TE):TS:=fun D σ H=>tv σ H fun v H1=>td σ H1 fun x H2=>ty σ H2 fun y H3=>∃ a H4,x=.ref a/\Bn H3 a y v H4/\D.nx σ H4
section
variable {X:Cx} {o i e value:Expr} {pos pos' tpos:Pos} {td ty tv:TE}
theorem PC (hu:X.A.units + 1 < cLine) (ho:PE X o td) (hi:PE X i ty) (hs:LC i):PE X (.Subscript o i pos) (Ss td ty):=by
 intro pins s σ H Q I h
 refine Pc PySem.F.slot_dict_getitem.lookup hs (bR (ho pins s σ H _ I h) fun u s1 ⟨x,H1,I1,rx,q1⟩=>bR (hi pins s1 σ H1 _ I1 q1) fun iv s2 ⟨y,H2,I2,ry,a,v,ex,g,q2⟩=>?_)
 subst ex
 obtain rfl:u=Value.ref a:=rx
 exact ⟨Ft I2 g,JN hu I2 g ry fun w' s3 I3 rw'=>⟨v,H2,I3,rw',q2⟩⟩
theorem Oi (hu:X.A.units + 1 < cLine) (ho:PE X o td) (hi:PE X i ty) (hv:PE X value tv) (hs:swapsWith value (some (.Subscript o i pos')) pos.line X.env=pure false) :
  PS X (.Assign [.Subscript o i pos'] value pos) (SI td ty tv):=by
 intro pins s σ H D I h
 refine wpAny_Assign_Subscript (bR (hv pins s σ H _ I h) fun r s1 ⟨v,H1,I1,rv,q1⟩=>bR (ho pins s1 σ H1 _ I1 q1) fun u s2 ⟨x,H2,I2,rx,q2⟩=>bR (hi pins s2 σ H2 _ I2 q2) fun iv s3 ⟨y,H3,I3,ry,a,H4,ex,g,q3⟩=>?_) hs
 subst ex
 obtain rfl:u=Value.ref a:=rx
 exact KU hu I3 g ry rv fun s4 I4=>⟨σ,H4,I4,q3⟩
end
theorem Mn {P:Program} {w:World} {H:Hp} (h:Heap) (hb:sysModules < h.objs.size):c6 P w H (h.push { cls:=.type "dict",data:=.dict #[] }) h.objs.size (.dK []) :=
 ⟨Nat.zero_le _,beq_eq_false_iff_ne.mpr (Ne.symm (Nat.ne_of_lt hb)),[],.nil,Heap.DictOf.new h⟩
theorem MS {P:Program} {w:World} {H:Hp} (h:Heap) (hb:sysModules < h.objs.size):c6 P w H (h.push { cls:=.type "dict",data:=.dict #[] }) h.objs.size (.dT []) :=
 ⟨Nat.zero_le _,beq_eq_false_iff_ne.mpr (Ne.symm (Nat.ne_of_lt hb)),[],.nil,_,#[],0,Heap.get?_push_size _ rfl,⟨rfl,rfl,rfl⟩,rfl,rfl,List.nodup_nil⟩
noncomputable def II:TE:=fun _ H Q=>∀ p,H p=none->Q (.ref p) (upd H p (.dK []))
noncomputable def Kt:TE:=fun _ H Q=>∀ p,H p=none->Q (.ref p) (upd H p (.dT []))
section
variable {X:Cx} {pos:Pos}
theorem Nd:PE X (.Dict [] [] pos) II:=fun pins s σ H Q I h =>
 wpAny_Dict_empty ⟨.ref s.heap.objs.size,_,I.laid (a:=s.heap.objs.size) (o:=.dK []) (t':=s.toks) (fun _ _ q=>Heap.get?_push_of_some _ q) (Nat.le_refl _) (Mn s.heap I.big),rfl,h _ (I.hok.fresh (Nat.le_refl _))⟩
theorem MX:PE X (.Dict [] [] pos) Kt:=fun pins s σ H Q I h =>
 wpAny_Dict_empty ⟨.ref s.heap.objs.size,_,I.laid (a:=s.heap.objs.size) (o:=.dT []) (t':=s.toks) (fun _ _ q=>Heap.get?_push_of_some _ q) (Nat.le_refl _) (MS s.heap I.big),rfl,h _ (I.hok.fresh (Nat.le_refl _))⟩
end
noncomputable abbrev VV:List (V × V)->List (Value × Value)->Prop:=Paired fun p q=>RelV p.1 q.1/\RelV p.2 q.2
structure M2 (X:Cx) (o:Expr) (m:Str) (apos:Pos) (e f:Expr) (cpos:Pos):Prop where
 base:attributeBase o m X.env (eval o X.env)=eval o X.env
 few:((backTo cpos (starEach [e,f] X.env)).all (fun x=>!x.1) && (backToKw cpos (keywordEach [] X.env)).all (fun x=>x.1.isSome)
  && decide (([e,f]:List Expr).length + ([]:List Keyword).length + (if ([]:List Keyword).isEmpty then 0 else 1) < 30))=true
 line:(apos.endLine == cpos.line)=true
 trees:backTo cpos (starEach [e,f] X.env)=[(false,eval e X.env),(false,eval f X.env)]
noncomputable def NR (H:Hp) (a:Addr):Prop:=(∃ kvs,Rd H a (.dK kvs))\/∃ kvs,Rd H a (.dT kvs)
theorem Kn {X:Cx} {pins:List (Addr × Obj)} {σ:St} {H:Hp} {s:Shared} {a:Addr} (I:Inv X pins σ H s) (d:NR H a) :
  s.TypeIs (.ref a) "dict"/\(∀ b,Value.ref a=.ref b->∃ ob,s.heap.get? b=some ob/\ob.dict=none)/\(a == sysModules)=false:=by
 rcases d with ⟨kvs,e⟩ | ⟨kvs,e⟩
 ·obtain ⟨_,hd,vs,_,dd⟩:=AX I.hok e
  refine ⟨dd.typeIs,fun b q=>?_,hd⟩
  cases q
  obtain ⟨ob,_,_,h1,h2,_⟩:=dd
  exact ⟨ob,h1,h2.2.1⟩
 ·obtain ⟨_,hd,xs,_,dd⟩:=Bd I.hok e
  refine ⟨dd.typeIs,fun b q=>?_,hd⟩
  cases q
  obtain ⟨ob,_,_,h1,h2,_⟩:=dd
  exact ⟨ob,h1,h2.2.1⟩
section
variable {X:Cx} {pins:List (Addr × Obj)} {σ:St} {H:Hp} {s:Shared} {a:Addr} {y d:V} {u r:Value} {o:Option V} {A:Around} {E:Value->Shared->Prop}
theorem Ri {Q:Value->Shared->Prop} (hu:A.units + 1 < cLine) (I:Inv X pins σ H s) (g:Aa H a y o) (ry:RelV y u) (rd:RelV d r) (h:∀ w' s',Inv X pins σ H s'->RelV (o.getD d) w'->Q w' s') :
  wpAny (model X.prog X.w) A (call (.builtin "dict.get") [.ref a,u,r]) Q E s:=by
 rcases g with ⟨kvs,k,e,ey,l⟩ | ⟨kvs,k,b,e,ey,eb,l⟩
 ·subst ey
  obtain ⟨z,hd,vs,rel,dd⟩:=AX I.hok e
  refine call_meetsIn PySem.F.slot_dict_get dd.typeIs PySem.F.entry_dict_get (PySem.F.args_dict_get_3 _ _ _) (meets_dict_get_default (dS X.prog X.w) a (A3 ry) hd r) ⟨_,dd.mapOf,h _ _ (I.tok _) ?_⟩
  rw [l]
  exact (rel.val k).getD rd
 ·subst ey
  cases (show u=Value.ref b from ry)
  obtain ⟨z,hd,xs,rel,dd⟩:=Bd I.hok e
  refine call_meetsIn PySem.F.slot_dict_get dd.typeIs PySem.F.entry_dict_get (PySem.F.args_dict_get_3 _ _ _) (meetsH_dict_get_default (tupleKind (dS X.prog X.w)) a b hd r) ⟨tupleKind_room_in1 hu,k,xs,Ak I.hok eb,dd,h _ _ (I.tok _) ?_⟩
  rw [l]
  exact (rel.val k).getD rd
end
noncomputable def Rv (td ty tx:TE):TE:=fun σ H Q=>td σ H fun x H1=>∃ a,x=.ref a/\NR H1 a/\ty σ H1 fun y H2=>tx σ H2 fun z H3=>∃ o,Aa H3 a y o/\Q (o.getD z) H3
section
variable {X:Cx} {o e f:Expr} {apos cpos:Pos} {td ty tx:TE}
theorem MN (hu:X.A.units + 1 < cLine) (ho:PE X o td) (he:PE X e ty) (hf:PE X f tx) (m:M2 X o "get" apos e f cpos):PE X (.Call (.Attribute o "get" apos) [e,f] [] cpos) (Rv td ty tx):=by
 intro pins s σ H Q I h
 refine wpAny_Call_method m.base m.few m.line PySem.F.plainAttrs_dict PySem.F.slot_dict_get PySem.F.type_dict_get (bR (ho pins s σ H _ I h) fun u s1 ⟨x,H1,I1,rx,a,ex,d,q1⟩=>?_)
 subst ex
 obtain rfl:u=Value.ref a:=rx
 obtain ⟨t1,t2,_⟩:=Kn I1 d
 refine ⟨t1,t2,?_⟩
 rw [m.trees]
 refine Calls.callWith_builtin rfl (Calls.evalArgs_plain (Calls.spliced_cons (bR (he pins s1 σ H1 _ I1 q1) fun iv s2 ⟨y,H2,I2,ry,q2⟩ =>
  Calls.spliced_cons (bR (hf pins s2 σ H2 _ I2 q2) fun fv s3 ⟨z,H3,I3,rz,ov,g,q3⟩=>Calls.spliced_nil ?_))))
 exact Ri hu I3 g ry rz fun w' s4 I4 rw'=>⟨_,H3,I4,rw',q3⟩
end
section
variable {X:Cx} {pins:List (Addr × Obj)} {σ:St} {H:Hp} {s:Shared} {a:Addr} {kvs:List (Key × V)} {A:Around} {E:Value->Shared->Prop}
end
section
variable {X:Cx} {pins:List (Addr × Obj)} {σ:St} {H:Hp} {s:Shared} {a:Addr} {y:V} {u:Value} {A:Around} {E:Value->Shared->Prop}
end
section
variable {X:Cx}
end
section
variable {κ:Type} [DecidableEq κ]
theorem SR {p:κ × V} {r:List (κ × V)} {k:κ} (e:p.1=k):vA (p :: r) k=vA r k:=by
 unfold vA
 rw [List.filter_cons,if_neg (by simp [e])]
theorem JT {p:κ × V} {r:List (κ × V)} {k:κ} (e:¬ p.1=k):vA (p :: r) k=p :: vA r k:=by
 unfold vA
 rw [List.filter_cons,if_pos (by simp [e])]
theorem Mr:∀ {kvs:List (κ × V)} {k:κ},¬ k∈kvs.map (·.1)->vA kvs k=kvs
 | [],_,_=>rfl
 | p :: r,k,h=>by
  have h':¬ k∈r.map (·.1):=fun m=>by
   obtain ⟨q,hq,e⟩:=List.mem_map.mp m
   exact h (List.mem_map.mpr ⟨q,List.mem_cons.mpr (Or.inr hq),e⟩)
  rw [JT fun e=>h (List.mem_map.mpr ⟨p,List.mem_cons.mpr (Or.inl rfl),e⟩),Mr h']
end
end L2
namespace U2
open PySem L2
inductive U where
 | non | bl (b:Bool) | int (i:Int) | str (x:Str) | tup (us:List U) | lst (us:List U) | ref (a:Addr) | ty (n:String) | dic (ks:List (List Key)) (tk:Bool) (us:List U)
inductive MO where
 | lst (us:List U) | dK (kvs:List (Key × U)) | dT (kvs:List (List Key × U)) | tbl (q:Str)
noncomputable abbrev aH:=Addr->Option MO
noncomputable def mup (M:aH) (a:Addr) (o:MO):aH:=fun b=>if b=a then some o else M b
theorem aI {M:aH} {a:Addr} {o:MO}:mup M a o a=some o:=by unfold mup;rw [if_pos rfl]
theorem aK {M:aH} {a b:Addr} {o:MO} (h:b≠a):mup M a o b=M b:=by unfold mup;rw [if_neg h]
theorem gG {M:aH} {a:Addr} {o u:MO}:mup (mup M a o) a u=mup M a u:=by
 funext b;unfold mup;split <;> rfl
noncomputable def KT (K:PySem.W.Frag) (a:Addr) (xs:List V):Prop :=
 ∃ (o:Obj) (its:Array Value) (n:Nat),K.lookup a=some o/\o.cls=.type "tuple"/\o.data=.seq its n/\its.size<=sizeLine/\Vals xs its.toList
noncomputable def KL (K:PySem.W.Frag) (a:Addr) (xs:List V):Prop :=
 ∃ (o:Obj) (its:Array Value) (n:Nat),K.lookup a=some o/\o.cls=.type "list"/\o.dict=none/\o.data=.seq its n/\its.size<=sizeLine/\Vals xs its.toList
noncomputable def AS (H:Hp) (a:Addr) (ks:List (List Key)) (tk:Bool) (vs:List V):Prop:=match tk with
 | true=>∃ ws,Rd H a (.dT ws)/\ks=ws.map (·.1)/\vs=ws.map (·.2)
 | false=>∃ ws,Rd H a (.dK ws)/\ks=ws.map (fun p=>[p.1])/\vs=ws.map (·.2)
mutual
noncomputable def aQ (K:PySem.W.Frag) (H:Hp) (M:aH):U->V->Prop
 | .non,v=>v=.non
 | .bl b,v=>v=.bl b
 | .int i,v=>v=.int i
 | .str x,v=>v=.str x
 | .ty n,v=>v=.ty n
 | .ref a,v=>v=.ref a
 | .tup us,v=>∃ a vs,v=.ref a/\(M a=none/\H a=some (.tup vs))/\aM K H M us vs
 | .dic ks tk us,v=>∃ a vs,v=.ref a/\M a=none/\AS H a ks tk vs/\aM K H M us vs
 | .lst us,v=>∃ a vs,v=.ref a/\((M a=none/\Rd H a (.lst vs))\/KL K a vs)/\aM K H M us vs
noncomputable def aM (K:PySem.W.Frag) (H:Hp) (M:aH):List U->List V->Prop
 | [],vs=>vs=[]
 | u :: us,vs=>∃ v vs',vs=v :: vs'/\aQ K H M u v/\aM K H M us vs'
end
noncomputable def sN:HO->Bool
 | .dK _=>true
 | .dT _=>true
 | _=>false
noncomputable def bA (H:Hp) (M:aH) (H1:Hp) (M1:aH):Prop:=∀ b o,H b=some o->M b=none->(H1 b=some o\/(sN o=true/\∃ ob,H1 b=some (.frz ob o)))/\M1 b=none
theorem bA.by' {H H1:Hp} {M M1:aH} (h:∀ b o,H b=some o->M b=none->H1 b=some o/\M1 b=none):bA H M H1 M1:=fun b o e m=>⟨.inl (h b o e m).1,(h b o e m).2⟩
theorem bA.to {H H1:Hp} {M M1:aH} (st:bA H M H1 M1) {b:Addr} {o:HO} (e:H b=some o) (m:M b=none) (n:sN o=false:=by rfl):H1 b=some o/\M1 b=none:=by
 obtain ⟨h | ⟨h,_⟩,m1⟩:=st b o e m
 ·exact ⟨h,m1⟩
 ·rw [n] at h;cases h
theorem bA.refl (H:Hp) (M:aH):bA H M H M:=.by' fun _ _ h m=>⟨h,m⟩
theorem bA.trans {H H1 H2:Hp} {M M1 M2:aH} (a:bA H M H1 M1) (b:bA H1 M1 H2 M2):bA H M H2 M2:=fun c o h m=>by
 obtain ⟨h1 | ⟨d,ob,h1⟩,m1⟩:=a c o h m
 ·exact b c o h1 m1
 ·obtain ⟨h2,m2⟩:=b.to h1 m1
  exact ⟨.inr ⟨d,ob,h2⟩,m2⟩
theorem Rd.stp {H H1:Hp} {M M1:aH} {a:Addr} {u:HO} (st:bA H M H1 M1) (m:M a=none) (h:Rd H a u):M1 a=none/\Rd H1 a u:=by
 rcases h with h | ⟨o,h⟩
 ·obtain ⟨x | ⟨_,ob,x⟩,y⟩:=st a _ h m
  ·exact ⟨y,.inl x⟩
  ·exact ⟨y,.inr ⟨ob,x⟩⟩
 ·obtain ⟨x,y⟩:=st.to h m;exact ⟨y,.inr ⟨o,x⟩⟩
theorem AS.stp {H H1:Hp} {M M1:aH} {a:Addr} {ks:List (List Key)} {tk:Bool} {vs:List V} (st:bA H M H1 M1) (m:M a=none) (h:AS H a ks tk vs):M1 a=none/\AS H1 a ks tk vs:=by
 cases tk with
 | true=>obtain ⟨ws,e,r⟩:=h;exact ⟨(Rd.stp st m e).1,ws,(Rd.stp st m e).2,r⟩
 | false=>obtain ⟨ws,e,r⟩:=h;exact ⟨(Rd.stp st m e).1,ws,(Rd.stp st m e).2,r⟩
mutual
theorem aQ.stp {K:PySem.W.Frag} {H H1:Hp} {M M1:aH} (st:bA H M H1 M1):∀ {u:U} {v:V},aQ K H M u v->aQ K H1 M1 u v
 | .non,_,h=>by simpa only [aQ] using h
 | .bl _,_,h=>by simpa only [aQ] using h
 | .int _,_,h=>by simpa only [aQ] using h
 | .str _,_,h=>by simpa only [aQ] using h
 | .ty _,_,h=>by simpa only [aQ] using h
 | .ref _,_,h=>by simpa only [aQ] using h
 | .tup us,_,h=>by
  simp only [aQ] at h ⊢
  obtain ⟨a,vs,e,h1,h2⟩:=h
  refine ⟨a,vs,e,?_,aM.stp st h2⟩
  obtain ⟨m,r⟩:=h1
  exact ⟨(st.to r m).2,(st.to r m).1⟩
 | .dic ks tk us,_,h=>by
  simp only [aQ] at h ⊢
  obtain ⟨a,vs,e,m,h1,h2⟩:=h
  have q:=AS.stp st m h1
  exact ⟨a,vs,e,q.1,q.2,aM.stp st h2⟩
 | .lst us,_,h=>by
  simp only [aQ] at h ⊢
  obtain ⟨a,vs,e,h1,h2⟩:=h
  refine ⟨a,vs,e,?_,aM.stp st h2⟩
  rcases h1 with ⟨m,r⟩ | k
  ·exact .inl (Rd.stp st m r)
  ·exact .inr k
theorem aM.stp {K:PySem.W.Frag} {H H1:Hp} {M M1:aH} (st:bA H M H1 M1):∀ {us:List U} {vs:List V},aM K H M us vs->aM K H1 M1 us vs
 | [],_,h=>by simpa only [aM] using h
 | u :: us,_,h=>by
  simp only [aM] at h ⊢
  obtain ⟨v,vs',e,h1,h2⟩:=h
  exact ⟨v,vs',e,aQ.stp st h1,aM.stp st h2⟩
end
theorem bA.less {H:Hp} {M M1:aH} (h:∀ b,M b=none->M1 b=none):bA H M H M1:=.by' fun b o e m=>⟨e,h b m⟩
noncomputable def dX {κ:Type} (K:PySem.W.Frag) (H:Hp) (M:aH):List (κ × U)->List (κ × V)->Prop:=Paired fun p q=>p.1=q.1/\aQ K H M p.2 q.2
theorem dX.stp {κ:Type} {K:PySem.W.Frag} {H H1:Hp} {M M1:aH} (st:bA H M H1 M1):∀ {us:List (κ × U)} {vs:List (κ × V)},dX K H M us vs->dX K H1 M1 us vs
 | _,_,.nil=>.nil
 | _,_,.cons h t=>.cons ⟨h.1,h.2.stp st⟩ (dX.stp st t)
noncomputable def A5 (K:PySem.W.Frag) (H:Hp) (M:aH) (a:Addr):MO->Prop
 | .lst us=>∃ vs,H a=some (.lst vs)/\aM K H M us vs
 | .dK kvs=>∃ ws,H a=some (.dK ws)/\dX K H M kvs ws
 | .dT kvs=>∃ ws,H a=some (.dT ws)/\dX K H M kvs ws
 | .tbl q=>(∀ b,M b=some (.tbl q)->b=a)/\∃ ps,H a=some (.tbl ps)/\TriplesOk ps.toList/\∀ pos c,codeAmong pos ps.toList=some c->∃ c' oc vs t,c=.ref c'/\H c'=some (.frz oc (.own 0))/\M c'=none/\oc.data=.fields vs/\vs[1]?=some (.str q t)
noncomputable def RelM (K:PySem.W.Frag) (H:Hp) (M:aH):Prop:=∀ a mo,M a=some mo->A5 K H M a mo
theorem A5.stp {K:PySem.W.Frag} {H H1:Hp} {M M1:aH} {a:Addr} {mo:MO} (hu:∀ b q,M1 b=some (.tbl q)->M b=some (.tbl q)) (st:bA H M H1 M1) (e:H1 a=H a) (h:A5 K H M a mo):A5 K H1 M1 a mo:=by
 cases mo with
 | lst us=>obtain ⟨vs,x,y⟩:=h;exact ⟨vs,e.trans x,y.stp st⟩
 | dK us=>obtain ⟨vs,x,y⟩:=h;exact ⟨vs,e.trans x,y.stp st⟩
 | dT us=>obtain ⟨vs,x,y⟩:=h;exact ⟨vs,e.trans x,y.stp st⟩
 | tbl q =>
  obtain ⟨un,ps,x,y,z⟩:=h
  refine ⟨fun b hb=>un b (hu b q hb),ps,e.trans x,y,fun pos c hc=>?_⟩
  obtain ⟨c',oc,vs,t,h1,h2,h3,h4⟩:=z pos c hc
  exact ⟨c',oc,vs,t,h1,(st.to h2 h3).1,(st.to h2 h3).2,h4⟩
theorem RelM.ex {K:PySem.W.Frag} {H:Hp} {M:aH} (r:RelM K H M) {a:Addr} {mo:MO} (h:M a=some mo):∃ o,H a=some o:=by
 have:=r a mo h
 cases mo with
 | lst us=>obtain ⟨vs,x,y⟩:=this;exact ⟨_,x⟩
 | dK us=>obtain ⟨vs,x,y⟩:=this;exact ⟨_,x⟩
 | dT us=>obtain ⟨vs,x,y⟩:=this;exact ⟨_,x⟩
 | tbl q=>obtain ⟨_,ps,x,_⟩:=this;exact ⟨_,x⟩
theorem RelM.no {K:PySem.W.Frag} {H:Hp} {M:aH} (r:RelM K H M) {a:Addr} (h:H a=none):M a=none:=by
 cases e:M a with
 | none=>rfl
 | some mo=>obtain ⟨o,q⟩:=r.ex e;rw [h] at q;cases q
theorem bA.laid {K:PySem.W.Frag} {H:Hp} {M:aH} {p:Addr} {o:HO} (r:RelM K H M) (h:H p=none):bA H M (upd H p o) M:=.by' fun b u e m=>⟨by rw [cF (dM e h)];exact e,m⟩
theorem RelM.laid {K:PySem.W.Frag} {H:Hp} {M:aH} {p:Addr} {o:HO} (r:RelM K H M) (h:H p=none):RelM K (upd H p o) M:=fun a mo e=>by
 obtain ⟨u,q⟩:=r.ex e
 exact (r a mo e).stp (fun _ _ z=>z) (bA.laid r h) (cF (dM q h))
theorem bA.own {K:PySem.W.Frag} {H:Hp} {M:aH} {p:Addr} {o:HO} {mo:MO} (r:RelM K H M) (h:H p=none):bA H M (upd H p o) (mup M p mo):=.by' fun b u e m=>by
 have n:=dM e h
 exact ⟨by rw [cF n];exact e,by rw [aK n];exact m⟩
theorem RelM.put {K:PySem.W.Frag} {H:Hp} {M:aH} {p:Addr} {o:HO} {mo:MO} (r:RelM K H M) (st:bA H M (upd H p o) (mup M p mo)) (new:A5 K (upd H p o) (mup M p mo) p mo) (hm:∀ q,mo≠.tbl q:=by intro q z;cases z):RelM K (upd H p o) (mup M p mo):=fun a m e=>by
 by_cases ha:a=p
 ·subst ha;rw [aI] at e;cases e;exact new
 ·rw [aK ha] at e
  refine (r a m e).stp (fun b q z=>?_) st (cF ha)
  by_cases hb:b=p
  ·subst hb;rw [aI] at z;exact absurd (Option.some.inj z) (hm q)
  ·rw [aK hb] at z;exact z
theorem bA.write {H:Hp} {M:aH} {p:Addr} {o:HO} {mo m0:MO} (h:M p=some m0):bA H M (upd H p o) (mup M p mo):=.by' fun b u e m=>by
 have n:b≠p:=fun z=>by subst z;rw [h] at m;cases m
 exact ⟨by rw [cF n];exact e,by rw [aK n];exact m⟩
section
variable {K:PySem.W.Frag} {H:Hp} {M:aH}
theorem aM.nil:aM K H M [] []:=by simp only [aM]
theorem aM.cons {u:U} {v:V} {us:List U} {vs:List V} (h:aQ K H M u v) (t:aM K H M us vs):aM K H M (u :: us) (v :: vs):=by simp only [aM];exact ⟨v,vs,rfl,h,t⟩
theorem aM.length:∀ {us:List U} {vs:List V},aM K H M us vs->us.length=vs.length
 | [],_,h=>by simp only [aM] at h;subst h;rfl
 | u :: us,_,h=>by
  simp only [aM] at h
  obtain ⟨v,vs',rfl,_,t⟩:=h
  simp [aM.length t]
theorem aM.inv_cons {u:U} {us:List U} {vs:List V} (h:aM K H M (u :: us) vs):∃ v vs',vs=v :: vs'/\aQ K H M u v/\aM K H M us vs':=by simpa only [aM] using h
theorem aM.inv_nil {vs:List V} (h:aM K H M [] vs):vs=[]:=by simpa only [aM] using h
theorem aM.append:∀ {us ws:List U} {vs zs:List V},aM K H M us vs->aM K H M ws zs->aM K H M (us++ws) (vs++zs)
 | [],_,_,_,h,t=>by cases h.inv_nil;exact t
 | u :: us,_,_,_,h,t=>by
  obtain ⟨v,vs',rfl,a,b⟩:=h.inv_cons
  exact .cons a (aM.append b t)
theorem aM.get:∀ {us:List U} {vs:List V} {i:Nat} {u:U},aM K H M us vs->us[i]?=some u->∃ v,vs[i]?=some v/\aQ K H M u v
 | [],_,_,_,_,e=>by simp at e
 | u :: us,_,0,_,h,e=>by
  obtain ⟨v,vs',rfl,a,b⟩:=h.inv_cons
  simp at e;subst e;exact ⟨v,rfl,a⟩
 | u :: us,_,i + 1,_,h,e=>by
  obtain ⟨v,vs',rfl,a,b⟩:=h.inv_cons
  simp at e
  obtain ⟨w,x,y⟩:=aM.get b e
  exact ⟨w,by simpa using x,y⟩
theorem aM.drop:∀ {us:List U} {vs:List V} (n:Nat),aM K H M us vs->aM K H M (us.drop n) (vs.drop n)
 | _,_,0,h=>h
 | [],_,_ + 1,h=>by cases h.inv_nil;exact .nil
 | u :: us,_,n + 1,h=>by
  obtain ⟨v,vs',rfl,a,b⟩:=h.inv_cons
  exact aM.drop n b
theorem aM.take:∀ {us:List U} {vs:List V} (n:Nat),aM K H M us vs->aM K H M (us.take n) (vs.take n)
 | _,_,0,_=>by simp only [List.take_zero];exact .nil
 | [],_,_ + 1,h=>by cases h.inv_nil;exact .nil
 | u :: us,_,n + 1,h=>by
  obtain ⟨v,vs',rfl,a,b⟩:=h.inv_cons
  exact .cons a (aM.take n b)
theorem aM.dropLast {us:List U} {vs:List V} (h:aM K H M us vs):aM K H M us.dropLast vs.dropLast:=by
 rw [List.dropLast_eq_take,List.dropLast_eq_take,h.length];exact h.take _
theorem aM.eraseIdx:∀ {us:List U} {vs:List V} (i:Nat),aM K H M us vs->aM K H M (us.eraseIdx i) (vs.eraseIdx i)
 | [],_,_,h=>by cases h.inv_nil;exact .nil
 | w :: us,_,0,h=>by
  obtain ⟨z,vs',rfl,a,b⟩:=h.inv_cons
  exact b
 | w :: us,_,i + 1,h=>by
  obtain ⟨z,vs',rfl,a,b⟩:=h.inv_cons
  exact .cons a (aM.eraseIdx i b)
end
noncomputable abbrev SU:=List (Option U)
noncomputable abbrev UK:=U->aH->Prop
noncomputable abbrev UE:=SU->aH->UK->Prop
noncomputable abbrev UT:=SU->aH->(Bool->aH->Prop)->Prop
noncomputable abbrev UA:=SU->aH->(List U->aH->Prop)->Prop
structure pZ where
 nx:SU->aH->Prop
 rt:UK
 bk:SU->aH->Prop:=fun _ _=>False
 ct:SU->aH->Prop:=fun _ _=>False
noncomputable abbrev US:=pZ->SU->aH->Prop
noncomputable def fI (K:PySem.W.Frag) (H:Hp) (M:aH) (σ:St) (τ:SU):Prop:=τ.length=σ.length/\∀ (i:Nat) u,τ[i]?=some (some u)->∃ v,σ[i]?=some (some v)/\aQ K H M u v
theorem fI.stp {K:PySem.W.Frag} {H H1:Hp} {M M1:aH} {σ:St} {τ:SU} (st:bA H M H1 M1) (r:fI K H M σ τ):fI K H1 M1 σ τ:=⟨r.1,fun i u e=>let ⟨v,a,b⟩:=r.2 i u e;⟨v,a,b.stp st⟩⟩
theorem fI.set {K:PySem.W.Frag} {H:Hp} {M:aH} {σ:St} {τ:SU} {i:Nat} {u:U} {v:V} (r:fI K H M σ τ) (h:aQ K H M u v):fI K H M (σ.set i (some v)) (τ.set i (some u)):=by
 refine ⟨by simp [r.1],fun j w e=>?_⟩
 rw [List.getElem?_set] at e ⊢
 split at e
 ·rename_i hij
  subst hij
  split at e
  ·rename_i hl
   cases e
   rw [if_pos rfl,if_pos (by rw [<- r.1];exact hl)]
   exact ⟨v,rfl,h⟩
  ·cases e
 ·rename_i hij
  rw [if_neg hij]
  exact r.2 j w e
noncomputable def cU (K:PySem.W.Frag) (t:TE) (t':UE):Prop:=∀ (σ:St) (τ:SU) (H:Hp) (M:aH) (Q':UK),fI K H M σ τ->RelM K H M->t' τ M Q' ->
 ∀ Q:VK,(∀ u v M1 H1,bA H M H1 M1->RelM K H1 M1->aQ K H1 M1 u v->Q' u M1->Q v H1)->t σ H Q
noncomputable def kO (K:PySem.W.Frag) (t:TT) (t':UT):Prop:=∀ (σ:St) (τ:SU) (H:Hp) (M:aH) (Q':Bool->aH->Prop),fI K H M σ τ->RelM K H M->t' τ M Q' ->
 ∀ Q:Bool->Hp->Prop,(∀ b M1 H1,bA H M H1 M1->RelM K H1 M1->Q' b M1->Q b H1)->t σ H Q
noncomputable def lK (K:PySem.W.Frag) (t:TA) (t':UA):Prop:=∀ (σ:St) (τ:SU) (H:Hp) (M:aH) (Q':List U->aH->Prop),fI K H M σ τ->RelM K H M->t' τ M Q' ->
 ∀ Q:List V->Hp->Prop,(∀ us vs M1 H1,bA H M H1 M1->RelM K H1 M1->aM K H1 M1 us vs->Q' us M1->Q vs H1)->t σ H Q
structure GL (K:PySem.W.Frag) (H:Hp) (M:aH) (D:Ends) (D':pZ):Prop where
 nx:∀ σ τ H1 M1,bA H M H1 M1->RelM K H1 M1->fI K H1 M1 σ τ->D'.nx τ M1->D.nx σ H1
 rt:∀ u v H1 M1,bA H M H1 M1->RelM K H1 M1->aQ K H1 M1 u v->D'.rt u M1->D.rt v H1
 bk:∀ σ τ H1 M1,bA H M H1 M1->RelM K H1 M1->fI K H1 M1 σ τ->D'.bk τ M1->D.bk σ H1
 ct:∀ σ τ H1 M1,bA H M H1 M1->RelM K H1 M1->fI K H1 M1 σ τ->D'.ct τ M1->D.ct σ H1
theorem GL.stp {K:PySem.W.Frag} {H H1:Hp} {M M1:aH} {D:Ends} {D':pZ} (d:GL K H M D D') (st:bA H M H1 M1):GL K H1 M1 D D' :=
 ⟨fun σ τ H2 M2 s=>d.nx σ τ H2 M2 (st.trans s),fun u v H2 M2 s=>d.rt u v H2 M2 (st.trans s),fun σ τ H2 M2 s=>d.bk σ τ H2 M2 (st.trans s),fun σ τ H2 M2 s=>d.ct σ τ H2 M2 (st.trans s)⟩
noncomputable def lI (K:PySem.W.Frag) (t:TS) (t':US):Prop:=∀ (σ:St) (τ:SU) (H:Hp) (M:aH) (D':pZ),fI K H M σ τ->RelM K H M->t' D' τ M->∀ D:Ends,GL K H M D D'->t D σ H
end U2
namespace U2
open PySem L2
noncomputable abbrev fF:=U->U->aH->UK->Prop
noncomputable def eR (K:PySem.W.Frag) (H:Hp) (M:aH) (Q':UK) (Q:VK):Prop:=∀ u v M1 H1,bA H M H1 M1->RelM K H1 M1->aQ K H1 M1 u v->Q' u M1->Q v H1
theorem eR.stp {K:PySem.W.Frag} {H H1:Hp} {M M1:aH} {Q':UK} {Q:VK} (c:eR K H M Q' Q) (st:bA H M H1 M1):eR K H1 M1 Q' Q:=fun u v M2 H2 s=>c u v M2 H2 (st.trans s)
theorem eR.here {K:PySem.W.Frag} {H:Hp} {M:aH} {Q':UK} {Q:VK} {u:U} {v:V} (c:eR K H M Q' Q) (rm:RelM K H M) (r:aQ K H M u v) (q:Q' u M):Q v H:=c u v M H (bA.refl H M) rm r q
noncomputable def gI (K:PySem.W.Frag) (r:R2) (r':fF):Prop:=∀ (x y:V) (u w:U) (H:Hp) (M:aH) (Q':UK),RelM K H M->aQ K H M u x->aQ K H M w y->r' u w M Q'->∀ Q:VK,eR K H M Q' Q->r x y H Q
noncomputable def SF (K:PySem.W.Frag) (r:V->Hp->VK->Prop) (r':U->aH->UK->Prop):Prop:=∀ (x:V) (u:U) (H:Hp) (M:aH) (Q':UK),RelM K H M->aQ K H M u x->r' u M Q'->∀ Q:VK,eR K H M Q' Q->r x H Q
noncomputable def rF (K:PySem.W.Frag) (r:List V->Hp->VK->Prop) (r':List U->aH->UK->Prop):Prop:=∀ (xs:List V) (us:List U) (H:Hp) (M:aH) (Q':UK),RelM K H M->aM K H M us xs->r' us M Q'->∀ Q:VK,eR K H M Q' Q->r xs H Q
noncomputable def yL (K:PySem.W.Frag) (r:V->List V->Hp->VK->Prop) (r':U->List U->aH->UK->Prop):Prop:=∀ (x:V) (xs:List V) (u:U) (us:List U) (H:Hp) (M:aH) (Q':UK),RelM K H M->aQ K H M u x->aM K H M us xs->r' u us M Q'->∀ Q:VK,eR K H M Q' Q->r x xs H Q
section
variable {K:PySem.W.Frag} {H:Hp} {M:aH} {v:V}
theorem aQ.non (h:aQ K H M .non v):v=.non:=by simpa only [aQ] using h
theorem aQ.bl {b:Bool} (h:aQ K H M (.bl b) v):v=.bl b:=by simpa only [aQ] using h
theorem aQ.int {i:Int} (h:aQ K H M (.int i) v):v=.int i:=by simpa only [aQ] using h
theorem aQ.str {x:Str} (h:aQ K H M (.str x) v):v=.str x:=by simpa only [aQ] using h
theorem aQ.ty {n:String} (h:aQ K H M (.ty n) v):v=.ty n:=by simpa only [aQ] using h
theorem aQ.ref {a:Addr} (h:aQ K H M (.ref a) v):v=.ref a:=by simpa only [aQ] using h
theorem aQ.tup {us:List U} (h:aQ K H M (.tup us) v):∃ a vs,v=.ref a/\iO K H a vs/\aM K H M us vs:=by
 simp only [aQ] at h
 obtain ⟨a,vs,e,h1,h2⟩:=h
 refine ⟨a,vs,e,?_,h2⟩
 exact .inl (.inl h1.2)
theorem aQ.lst {us:List U} (h:aQ K H M (.lst us) v):∃ a vs,v=.ref a/\eT K H a vs/\aM K H M us vs:=by
 simp only [aQ] at h
 obtain ⟨a,vs,e,h1,h2⟩:=h
 refine ⟨a,vs,e,?_,h2⟩
 rcases h1 with ⟨_,r⟩ | k
 ·exact .inl r
 ·exact .inr k
theorem uX:aQ K H M .non .non:=by simp only [aQ]
theorem iR {b:Bool}:aQ K H M (.bl b) (.bl b):=by simp only [aQ]
theorem dI {i:Int}:aQ K H M (.int i) (.int i):=by simp only [aQ]
theorem nZ {x:Str}:aQ K H M (.str x) (.str x):=by simp only [aQ]
theorem PH {n:String}:aQ K H M (.ty n) (.ty n):=by simp only [aQ]
theorem rB {a:Addr}:aQ K H M (.ref a) (.ref a):=by simp only [aQ]
theorem vX {a:Addr} {us:List U} {vs:List V} (m:M a=none) (h:H a=some (.tup vs)) (r:aM K H M us vs):aQ K H M (.tup us) (.ref a):=by
 simp only [aQ];exact ⟨a,vs,rfl,⟨m,h⟩,r⟩
theorem vB {a:Addr} {us:List U} {vs:List V} (m:M a=none) (h:H a=some (.lst vs)) (r:aM K H M us vs):aQ K H M (.lst us) (.ref a):=by
 simp only [aQ];exact ⟨a,vs,rfl,.inl ⟨m,.inl h⟩,r⟩
theorem eR.tup {Q':UK} {Q:VK} {us:List U} {vs:List V} {p:Addr} (c:eR K H M Q' Q) (rm:RelM K H M) (r:aM K H M us vs) (hp:H p=none) (q:Q' (.tup us) M):Q (.ref p) (upd H p (.tup vs)) :=
 c _ _ M _ (bA.laid rm hp) (rm.laid hp) (vX (rm.no hp) c5 (r.stp (bA.laid rm hp))) q
noncomputable def jL (o:Bool) (us:List U) (M:aH) (Q:UK):Prop:=match o with
 | true=>∀ p,M p=none->Q (.ref p) (mup M p (.lst us))
 | false=>Q (.lst us) M
theorem eR.lst {o:Bool} {Q':UK} {Q:VK} {us:List U} {vs:List V} {p:Addr} (c:eR K H M Q' Q) (rm:RelM K H M) (r:aM K H M us vs) (hp:H p=none) (q:jL o us M Q'):Q (.ref p) (upd H p (.lst vs)):=by
 cases o with
 | false=>exact c _ _ M _ (bA.laid rm hp) (rm.laid hp) (vB (rm.no hp) c5 (r.stp (bA.laid rm hp))) q
 | true =>
  have st:bA H M (upd H p (.lst vs)) (mup M p (.lst us)):=bA.own rm hp
  exact c (.ref p) _ _ _ st (rm.put st ⟨vs,c5,r.stp st⟩) rB (q p (rm.no hp))
end
noncomputable def view (M:aH):U->U
 | .ref a=>match M a with
  | some (.lst us)=>.lst us
  | _=>.ref a
 | u=>u
theorem gF {M:aH} {a:Addr} {us:List U} (h:M a=some (.lst us)):view M (.ref a)=.lst us:=by simp only [view,h]
theorem fK {K:PySem.W.Frag} {H:Hp} {M:aH} {u:U} {v:V} {us:List U} (rm:RelM K H M) (r:aQ K H M u v) (h:view M u=.lst us):∃ a vs,v=.ref a/\eT K H a vs/\aM K H M us vs:=by
 cases u with
 | lst ws=>simp only [view] at h;cases h;exact r.lst
 | ref a =>
  simp only [view] at h
  split at h
  ·rename_i ws e
   cases h
   obtain ⟨vs,h1,h2⟩:=rm a _ e
   exact ⟨a,vs,r.ref,.inl (.inl h1),h2⟩
  ·cases h
 | _=>simp [view] at h
section
variable {K:PySem.W.Frag} {t ta tb tc:TE} {t' ta' tb' tc':UE}
noncomputable def pA (i:Nat):UE:=fun τ M Q=>match τ[i]? with
 | some (some u)=>Q u M
 | _=>False
theorem Ob (i:Nat):cU K (R0 i) (pA i):=fun σ τ H M Q' rs rm h Q c=>by
 unfold pA at h
 split at h
 ·rename_i u e
  obtain ⟨v,e2,r⟩:=rs.2 i u e
  exact ⟨v,e2,c u v M H (bA.refl _ _) rm r h⟩
 ·exact h.elim
noncomputable def uC (u:U):UE:=fun _ M Q=>Q u M
theorem A8 {u:U} {v:V} (h:∀ H M,aQ K H M u v):cU K (tC v) (uC u):=fun σ τ H M Q' rs rm q Q c=>c u v M H (bA.refl _ _) rm (h H M) q
theorem OO {i:Int}:cU K (tC (.int i)) (uC (.int i)):=A8 fun _ _=>dI
theorem Qx {i:Bool}:cU K (tC (.bl i)) (uC (.bl i)):=A8 fun _ _=>iR
theorem Oc {i:Str}:cU K (tC (.str i)) (uC (.str i)):=A8 fun _ _=>nZ
theorem Ql {n:String}:cU K (tC (.ty n)) (uC (.ty n)):=A8 fun _ _=>PH
theorem OS {a:Addr}:cU K (tC (.ref a)) (uC (.ref a)):=A8 fun _ _=>rB
noncomputable def lH (r:fF) (ta tb:UE):UE:=fun τ M Q=>ta τ M fun x M1=>tb τ M1 fun y M2=>r x y M2 Q
theorem wY {r:R2} {r':fF} (hr:gI K r r') (ha:cU K ta ta') (hb:cU K tb tb'):cU K (Gw r ta tb) (lH r' ta' tb'):=fun σ τ H M Q' rs rm h Q c =>
 ha σ τ H M _ rs rm h _ fun u v M1 H1 s1 rm1 ru h1=>hb σ τ H1 M1 _ (rs.stp s1) rm1 h1 _ fun w x M2 H2 s2 rm2 rw h2=>hr v x u w H2 M2 Q' rm2 (ru.stp s2) rw h2 Q (eR.stp c (s1.trans s2))
noncomputable def zP (r:U->aH->UK->Prop) (ta:UE):UE:=fun τ M Q=>ta τ M fun x M1=>r x M1 Q
theorem Qr {r:V->Hp->VK->Prop} {r':U->aH->UK->Prop} (hr:SF K r r') (ha:cU K ta ta'):cU K (SQ r ta) (zP r' ta'):=fun σ τ H M Q' rs rm h Q c =>
 ha σ τ H M _ rs rm h _ fun u v M1 H1 s1 rm1 ru h1=>hr v u H1 M1 Q' rm1 ru h1 Q (eR.stp c s1)
noncomputable def mV (t:UE):UT:=fun τ M Q=>t τ M fun u M1=>match u with
 | .bl b=>Q b M1
 | _=>False
theorem MW (h:cU K t t'):kO K (Nu t) (mV t'):=fun σ τ H M Q' rs rm q Q c=>h σ τ H M _ rs rm q _ fun u v M1 H1 s1 rm1 ru h1=>by
 cases u with
 | bl b=>exact ⟨b,ru.bl,c b M1 H1 s1 rm1 h1⟩
 | _=>exact h1.elim
noncomputable def sI (t:UE):UT:=fun τ M Q=>t τ M fun u M1=>match view M1 u with
 | .non=>Q false M1
 | .bl b=>Q b M1
 | .int i=>Q (i != 0) M1
 | .str x=>x.length<=sizeLine/\Q ((x.length:Int) != 0) M1
 | .tup us=>Q (!us.isEmpty) M1
 | .lst us=>Q (!us.isEmpty) M1
 | _=>False
theorem zJ {H:Hp} {M:aH} {us:List U} {vs:List V} (r:aM K H M us vs):us.isEmpty=vs.isEmpty:=by
 have:=r.length
 cases us <;> cases vs <;> simp_all
theorem Pq (h:cU K t t'):kO K (fun σ H Q=>t σ H fun x H'=>∃ k,MQ K x H' k/\Q k H') (sI t'):=fun σ τ H M Q' rs rm q Q c=>h σ τ H M _ rs rm q _ fun u v M1 H1 s1 rm1 ru h1=>by
 split at h1
 ·rename_i e
  cases u with
  | non=>exact ⟨false,by rw [ru.non];rfl,c _ M1 H1 s1 rm1 h1⟩
  | ref a=>simp only [view] at e;split at e <;> cases e
  | _=>simp [view] at e
 ·rename_i b e
  cases u with
  | bl b'=>simp only [view] at e;cases e;exact ⟨b,by rw [ru.bl];rfl,c _ M1 H1 s1 rm1 h1⟩
  | ref a=>simp only [view] at e;split at e <;> cases e
  | _=>simp [view] at e
 ·rename_i b e
  cases u with
  | int b'=>simp only [view] at e;cases e;exact ⟨b != 0,by rw [ru.int];rfl,c _ M1 H1 s1 rm1 h1⟩
  | ref a=>simp only [view] at e;split at e <;> cases e
  | _=>simp [view] at e
 ·rename_i b e
  cases u with
  | str b'=>simp only [view] at e;cases e;exact ⟨(b.length:Int) != 0,by rw [ru.str];exact ⟨h1.1,rfl⟩,c _ M1 H1 s1 rm1 h1.2⟩
  | ref a=>simp only [view] at e;split at e <;> cases e
  | _=>simp [view] at e
 ·rename_i us e
  cases u with
  | tup us' =>
   simp only [view] at e;cases e
   obtain ⟨a,vs,rfl,r1,r2⟩:=ru.tup
   exact ⟨!vs.isEmpty,.inr (.inl ⟨vs,r1,rfl⟩),c _ M1 H1 s1 rm1 (by rw [<- zJ r2];exact h1)⟩
  | ref a=>simp only [view] at e;split at e <;> cases e
  | _=>simp [view] at e
 ·rename_i us e
  obtain ⟨a,vs,rfl,r1,r2⟩:=fK rm1 ru e
  exact ⟨!vs.isEmpty,.inl ⟨vs,r1,rfl⟩,c _ M1 H1 s1 rm1 (by rw [<- zJ r2];exact h1)⟩
 ·exact h1.elim
noncomputable def tB (t u:UT):UT:=fun τ M Q=>t τ M fun c M1=>if c=true then u τ M1 Q else Q false M1
noncomputable def yV (t u:UT):UT:=fun τ M Q=>t τ M fun c M1=>if c=true then Q true M1 else u τ M1 Q
noncomputable def tF (t:UT):UT:=fun τ M Q=>t τ M fun c M1=>Q (!c) M1
theorem N1 {t u:TT} {t' u':UT} (h:kO K t t') (k:kO K u u'):kO K (Qj t u) (tB t' u'):=fun σ τ H M Q' rs rm q Q c=>h σ τ H M _ rs rm q _ fun b M1 H1 s1 rm1 h1=>by
 cases b with
 | true=>exact k σ τ H1 M1 Q' (rs.stp s1) rm1 h1 Q fun b M2 H2 s2=>c b M2 H2 (s1.trans s2)
 | false=>exact c _ M1 H1 s1 rm1 h1
theorem RF {t u:TT} {t' u':UT} (h:kO K t t') (k:kO K u u'):kO K (SO t u) (yV t' u'):=fun σ τ H M Q' rs rm q Q c=>h σ τ H M _ rs rm q _ fun b M1 H1 s1 rm1 h1=>by
 cases b with
 | false=>exact k σ τ H1 M1 Q' (rs.stp s1) rm1 h1 Q fun b M2 H2 s2=>c b M2 H2 (s1.trans s2)
 | true=>exact c _ M1 H1 s1 rm1 h1
theorem OE {t:TT} {t':UT} (h:kO K t t'):kO K (Rh t) (tF t'):=fun σ τ H M Q' rs rm q Q c=>h σ τ H M _ rs rm q _ fun b M1 H1 s1 rm1 h1=>c _ M1 H1 s1 rm1 h1
noncomputable def n9 (ta tb:UE):UE:=fun τ M Q=>ta τ M fun x M1=>match x with
 | .bl c=>if c=true then tb τ M1 Q else Q (.bl false) M1
 | _=>False
noncomputable def tQ (ta tb:UE):UE:=fun τ M Q=>ta τ M fun x M1=>match x with
 | .bl c=>if c=true then Q (.bl true) M1 else tb τ M1 Q
 | _=>False
noncomputable def rH (ta:UE):UE:=fun τ M Q=>ta τ M fun x M1=>match x with
 | .bl c=>Q (.bl (!c)) M1
 | _=>False
theorem MD (h:cU K ta ta') (k:cU K tb tb'):cU K (Ni ta tb) (n9 ta' tb'):=fun σ τ H M Q' rs rm q Q c=>h σ τ H M _ rs rm q _ fun u v M1 H1 s1 rm1 ru h1=>by
 cases u with
 | bl b =>
  refine ⟨b,ru.bl,?_⟩
  cases b with
  | true=>exact k σ τ H1 M1 Q' (rs.stp s1) rm1 h1 Q (eR.stp c s1)
  | false=>exact c _ _ M1 H1 s1 rm1 iR h1
 | _=>exact h1.elim
theorem PD (h:cU K ta ta') (k:cU K tb tb'):cU K (RX ta tb) (tQ ta' tb'):=fun σ τ H M Q' rs rm q Q c=>h σ τ H M _ rs rm q _ fun u v M1 H1 s1 rm1 ru h1=>by
 cases u with
 | bl b =>
  refine ⟨b,ru.bl,?_⟩
  cases b with
  | false=>exact k σ τ H1 M1 Q' (rs.stp s1) rm1 h1 Q (eR.stp c s1)
  | true=>exact c _ _ M1 H1 s1 rm1 iR h1
 | _=>exact h1.elim
noncomputable def yU (t:UT) (ta tb:UE):UE:=fun τ M Q=>t τ M fun c M1=>if c=true then ta τ M1 Q else tb τ M1 Q
theorem QD {t:TT} {t':UT} (h:kO K t t') (k:cU K ta ta') (l:cU K tb tb'):cU K (SY t ta tb) (yU t' ta' tb'):=fun σ τ H M Q' rs rm q Q c=>h σ τ H M _ rs rm q _ fun b M1 H1 s1 rm1 h1=>by
 cases b with
 | true=>exact k σ τ H1 M1 Q' (rs.stp s1) rm1 h1 Q (eR.stp c s1)
 | false=>exact l σ τ H1 M1 Q' (rs.stp s1) rm1 h1 Q (eR.stp c s1)
noncomputable def lR (r r':fF) (ta tb tc:UE):UE:=fun τ M Q=>ta τ M fun x M1=>tb τ M1 fun y M2=>r x y M2 fun z M3=>match z with
 | .bl k=>if k=true then tc τ M3 fun w M4=>r' y w M4 Q else Q (.bl false) M3
 | _=>False
theorem Km {r r':R2} {s s':fF} (hr:gI K r s) (hr':gI K r' s') (ha:cU K ta ta') (hb:cU K tb tb') (hc:cU K tc tc'):cU K (Lb r r' ta tb tc) (lR s s' ta' tb' tc'):=fun σ τ H M Q' rs rm h Q c =>
 ha σ τ H M _ rs rm h _ fun u v M1 H1 s1 rm1 ru h1=>hb σ τ H1 M1 _ (rs.stp s1) rm1 h1 _ fun w x M2 H2 s2 rm2 rw h2 =>
  hr v x u w H2 M2 _ rm2 (ru.stp s2) rw h2 _ fun z zv M3 H3 s3 rm3 rz h3=>by
   cases z with
   | bl k =>
    refine ⟨k,rz.bl,?_⟩
    cases k with
    | true=>exact hc σ τ H3 M3 _ ((rs.stp s1).stp (s2.trans s3)) rm3 h3 _ fun w2 x2 M4 H4 s4 rm4 rw4 h4=>hr' x x2 w w2 H4 M4 Q' rm4 (rw.stp (s3.trans s4)) rw4 h4 Q (eR.stp c (((s1.trans s2).trans s3).trans s4))
    | false=>exact c _ _ M3 H3 ((s1.trans s2).trans s3) rm3 iR h3
   | _=>exact h3.elim
noncomputable def sO:UA:=fun _ M Q=>Q [] M
noncomputable def n8 (ta:UE) (tr:UA):UA:=fun τ M Q=>ta τ M fun x M1=>tr τ M1 fun xs M2=>Q (x :: xs) M2
theorem OZ:lK K Ei sO:=fun σ τ H M Q' rs rm q Q c=>c [] [] M H (bA.refl _ _) rm .nil q
theorem LS {tr:TA} {tr':UA} (ha:cU K ta ta') (hr:lK K tr tr'):lK K (Hc ta tr) (n8 ta' tr'):=fun σ τ H M Q' rs rm h Q c =>
 ha σ τ H M _ rs rm h _ fun u v M1 H1 s1 rm1 ru h1=>hr σ τ H1 M1 _ (rs.stp s1) rm1 h1 _ fun us vs M2 H2 s2 rm2 rus h2=>c (u :: us) (v :: vs) M2 H2 (s1.trans s2) rm2 (.cons (ru.stp s2) rus) h2
noncomputable def sX (t:UA):UE:=fun τ M Q=>t τ M fun us M1=>us.length<=sizeLine/\Q (.tup us) M1
noncomputable def sQ (o:Bool) (t:UA):UE:=fun τ M Q=>t τ M fun us M1=>us.length<=sizeLine/\jL o us M1 Q
theorem Oe {t:TA} {t':UA} (h:lK K t t'):cU K (Qf t) (sX t'):=fun σ τ H M Q' rs rm q Q c =>
 h σ τ H M _ rs rm q _ fun us vs M1 H1 s1 rm1 r h1=>⟨by rw [<- r.length];exact h1.1,fun p hp=>(eR.stp c s1).tup rm1 r hp h1.2⟩
theorem PU {o:Bool} {t:TA} {t':UA} (h:lK K t t'):cU K (RG t) (sQ o t'):=fun σ τ H M Q' rs rm q Q c =>
 h σ τ H M _ rs rm q _ fun us vs M1 H1 s1 rm1 r h1=>⟨by rw [<- r.length];exact h1.1,fun p hp=>(eR.stp c s1).lst rm1 r hp h1.2⟩
noncomputable def xO (r:List U->aH->UK->Prop) (t:UA):UE:=fun τ M Q=>t τ M fun us M1=>r us M1 Q
theorem I0 {r:List V->Hp->VK->Prop} {r':List U->aH->UK->Prop} {t:TA} {t':UA} (hr:rF K r r') (h:lK K t t'):cU K (QJ r t) (xO r' t'):=fun σ τ H M Q' rs rm q Q c =>
 h σ τ H M _ rs rm q _ fun us vs M1 H1 s1 rm1 ru h1=>hr vs us H1 M1 Q' rm1 ru h1 Q (eR.stp c s1)
end
end U2
namespace U2
open PySem L2
section
variable {K:PySem.W.Frag}
noncomputable def pK (g:Int->Int->U):fF:=fun x y M Q=>match x,y with
 | .int i,.int j=>Q (g i j) M
 | _,_=>False
noncomputable def uI (C:Int->Int->Prop) (g:Int->Int->U):fF:=fun x y M Q=>match x,y with
 | .int i,.int j=>C i j/\Q (g i j) M
 | _,_=>False
theorem Jf {g:Int->Int->V} {g':Int->Int->U} (hg:∀ H M i j,aQ K H M (g' i j) (g i j)):gI K (wH g) (pK g'):=fun x y u w H M Q' rm ru rw h Q c=>by
 cases u with
 | int i=>cases w with
  | int j=>exact ⟨i,j,ru.int,rw.int,c _ _ M H (bA.refl _ _) rm (hg H M i j) h⟩
  | _=>exact h.elim
 | _=>exact h.elim
theorem Su {C:Int->Int->Prop} {g:Int->Int->V} {g':Int->Int->U} (hg:∀ H M i j,aQ K H M (g' i j) (g i j)):gI K (rI C g) (uI C g'):=fun x y u w H M Q' rm ru rw h Q c=>by
 cases u with
 | int i=>cases w with
  | int j=>exact ⟨i,j,ru.int,rw.int,h.1,c _ _ M H (bA.refl _ _) rm (hg H M i j) h.2⟩
  | _=>exact h.elim
 | _=>exact h.elim
theorem D0 {f:Int->Int->Int}:gI K (wH fun i j=>.int (f i j)) (pK fun i j=>.int (f i j)):=Jf fun _ _ _ _=>dI
theorem rX {f:Int->Int->Bool}:gI K (wH fun i j=>.bl (f i j)) (pK fun i j=>.bl (f i j)):=Jf fun _ _ _ _=>iR
theorem rZ {C:Int->Int->Prop} {f:Int->Int->Int}:gI K (rI C fun i j=>.int (f i j)) (uI C fun i j=>.int (f i j)):=Su fun _ _ _ _=>dI
noncomputable def SM:fF:=fun x y M Q=>match x,y with
 | .str i,.str j=>i.length + j.length<=sizeLine/\Q (.str (i++j)) M
 | _,_=>False
theorem ME:gI K (fun x y H Q=>∃ i j,x=.str i/\y=.str j/\i.length + j.length<=sizeLine/\Q (.str (i++j)) H) SM:=fun x y u w H M Q' rm ru rw h Q c=>by
 cases u with
 | str i=>cases w with
  | str j=>exact ⟨i,j,ru.str,rw.str,h.1,c _ _ M H (bA.refl _ _) rm nZ h.2⟩
  | _=>exact h.elim
 | _=>exact h.elim
noncomputable def Dk (K:PySem.W.Frag):R2:=fun x y H Q=>∃ a b xs ys,x=.ref a/\y=.ref b/\iO K H a xs/\iO K H b ys/\xs.length + ys.length<=sizeLine /\
 (xs=[]->Q (.ref b) H)/\(xs≠[]->ys=[]->Q (.ref a) H)/\(xs≠[]->ys≠[]->∀ p,H p=none->Q (.ref p) (upd H p (.tup (xs++ys))))
noncomputable def R5:fF:=fun x y M Q=>match x,y with
 | .tup us,.tup ws=>us.length + ws.length<=sizeLine/\Q (.tup (us++ws)) M
 | _,_=>False
theorem Lh:gI K (Dk K) R5:=fun x y u w H M Q' rm ru rw h Q c=>by
 cases u with
 | tup us=>cases w with
  | tup ws =>
   obtain ⟨h2,h3⟩:=h
   obtain ⟨a,xs,rfl,s1,r1⟩:=ru.tup
   obtain ⟨b,ys,rfl,s2,r2⟩:=rw.tup
   refine ⟨a,b,xs,ys,rfl,rfl,s1,s2,by rw [<- r1.length,<- r2.length];exact h2,fun e=>?_,fun _ e=>?_,fun _ _ p hp=>c.tup rm (r1.append r2) hp h3⟩
   ·subst e
    have e2:us=[]:=List.length_eq_zero_iff.mp r1.length
    subst e2
    exact c _ _ M H (bA.refl _ _) rm rw h3
   ·subst e
    have e2:ws=[]:=List.length_eq_zero_iff.mp r2.length
    subst e2
    exact c _ _ M H (bA.refl _ _) rm ru (by rw [List.append_nil] at h3;exact h3)
  | _=>exact h.elim
 | _=>exact h.elim
noncomputable def mO (o:Bool):fF:=fun x y M Q=>match view M x,view M y with
 | .lst us,.lst ws=>us.length + ws.length<=sizeLine/\jL o (us++ws) M Q
 | _,_=>False
noncomputable def IG (K:PySem.W.Frag):R2:=fun x y H Q=>∃ l b xs zs,x=.ref l/\y=.ref b/\eT K H l xs/\eT K H b zs/\xs.length + zs.length<=sizeLine/\∀ p,H p=none->Q (.ref p) (upd H p (.lst (xs++zs)))
theorem LF {o:Bool}:gI K (IG K) (mO o):=fun x y u w H M Q' rm ru rw h Q c=>by
 unfold mO at h
 split at h
 ·rename_i us ws e1 e2
  obtain ⟨a,xs,rfl,s1,r1⟩:=fK rm ru e1
  obtain ⟨b,ys,rfl,s2,r2⟩:=fK rm rw e2
  exact ⟨a,b,xs,ys,rfl,rfl,s1,s2,by rw [<- r1.length,<- r2.length];exact h.1,fun p hp=>c.lst rm (r1.append r2) hp h.2⟩
 ·exact h.elim
theorem Ge {H:Hp} {M:aH} {us:List U} {vs:List V} {i:Int} {u:U} (r:aM K H M us vs) (h:cK us i=some u):∃ v,cK vs i=some v/\aQ K H M u v:=by
 unfold cK at h ⊢
 rw [<- r.length]
 cases e:oV us.length i with
 | none=>rw [e] at h;cases h
 | some j=>rw [e] at h;exact r.get h
noncomputable def xU:fF:=fun x y M Q=>match view M x,y with
 | .lst us,.int i=>∃ u,cK us i=some u/\Q u M
 | .tup us,.int i=>∃ u,cK us i=some u/\Q u M
 | .str z,.int i=>z.length<=sizeLine/\∃ c,cK z.cps.toList i=some c/\Q (.str ⟨#[c]⟩) M
 | _,_=>False
theorem qW {M:aH} {u:U} {us:List U} (h:view M u=.tup us):u=.tup us:=by
 cases u with
 | ref a=>simp only [view] at h;split at h <;> cases h
 | _=>simpa [view] using h
theorem zY {M:aH} {u:U} {x:Str} (h:view M u=.str x):u=.str x:=by
 cases u with
 | ref a=>simp only [view] at h;split at h <;> cases h
 | _=>simpa [view] using h
theorem Ra:gI K (S5 K) xU:=fun x y u w H M Q' rm ru rw h Q c=>by
 unfold xU at h
 split at h
 ·rename_i us i e
  obtain ⟨z,h1,h2⟩:=h
  obtain ⟨a,xs,rfl,s1,r1⟩:=fK rm ru e
  obtain ⟨v,h3,h4⟩:=Ge r1 h1
  exact .inl ⟨a,xs,i,v,rfl,rw.int,s1,h3,c _ _ M H (bA.refl _ _) rm h4 h2⟩
 ·rename_i us i e
  obtain ⟨z,h1,h2⟩:=h
  have e':=qW e
  subst e'
  obtain ⟨a,xs,rfl,s1,r1⟩:=ru.tup
  obtain ⟨v,h3,h4⟩:=Ge r1 h1
  exact .inr (.inl ⟨a,xs,i,v,rfl,rw.int,s1,h3,c _ _ M H (bA.refl _ _) rm h4 h2⟩)
 ·rename_i z i e
  obtain ⟨h0,d,h1,h2⟩:=h
  have e':=zY e
  subst e'
  exact .inr (.inr ⟨z,i,d,ru.str,rw.int,h0,h1,c _ _ M H (bA.refl _ _) rm nZ h2⟩)
 ·exact h.elim
noncomputable abbrev UO:=SU->aH->(Option Int->aH->Prop)->Prop
noncomputable def DH (K:PySem.W.Frag) (t:TO) (t':UO):Prop:=∀ (σ:St) (τ:SU) (H:Hp) (M:aH) (Q':Option Int->aH->Prop),fI K H M σ τ->RelM K H M->t' τ M Q' ->
 ∀ Q:Option Int->Hp->Prop,(∀ o M1 H1,bA H M H1 M1->RelM K H1 M1->Q' o M1->Q o H1)->t σ H Q
noncomputable def j9:UO:=fun _ M Q=>Q none M
noncomputable def oM (t:UE):UO:=fun τ M Q=>t τ M fun x M1=>match x with
 | .int i=>Q (some i) M1
 | _=>False
theorem Ig:DH K Gz j9:=fun σ τ H M Q' rs rm q Q c=>c none M H (bA.refl _ _) rm q
theorem Mw {t:TE} {t':UE} (h:cU K t t'):DH K (NS t) (oM t'):=fun σ τ H M Q' rs rm q Q c=>h σ τ H M _ rs rm q _ fun u v M1 H1 s1 rm1 ru h1=>by
 cases u with
 | int i=>exact ⟨i,ru.int,c _ M1 H1 s1 rm1 h1⟩
 | _=>exact h1.elim
noncomputable def iB {α:Type} (xs:List α) (lo hi:Option Int):List α:=(xs.drop (HT.bW xs.length 0 lo)).take (HT.bW xs.length xs.length hi - HT.bW xs.length 0 lo)
theorem FY {H:Hp} {M:aH} {us:List U} {vs:List V} (r:aM K H M us vs) (lo hi:Option Int):aM K H M (iB us lo hi) (sR vs lo hi):=by
 unfold iB sR
 rw [r.length]
 exact (r.drop _).take _
noncomputable def Qv (K:PySem.W.Frag):V->Option Int->Option Int->Hp->VK->Prop:=fun x lo hi H Q =>
 (∃ a xs,x=.ref a/\eT K H a xs/\∀ p,H p=none->Q (.ref p) (upd H p (.lst (sR xs lo hi)))) \/
 (∃ a xs,x=.ref a/\iO K H a xs/\¬ (HT.bW xs.length 0 lo=0/\HT.bW xs.length xs.length hi=xs.length)/\∀ p,H p=none->Q (.ref p) (upd H p (.tup (sR xs lo hi)))) \/
 (∃ z:Str,x=.str z/\z.length<=sizeLine/\Q (.str (Txt.slice z lo hi)) H)
noncomputable def TK (o:Bool) (te:UE) (tl th:UO):UE:=fun τ M Q=>te τ M fun x M1=>tl τ M1 fun l M2=>th τ M2 fun h M3=>match view M3 x with
 | .lst us=>jL o (iB us l h) M3 Q
 | .tup us=>¬ (HT.bW us.length 0 l=0/\HT.bW us.length us.length h=us.length)/\Q (.tup (iB us l h)) M3
 | .str z=>z.length<=sizeLine/\Q (.str (Txt.slice z l h)) M3
 | _=>False
end
section
variable {K:PySem.W.Frag} {t u:TS} {t' u':US} {te:TE} {te':UE}
noncomputable def cN:US:=fun D τ M=>D.nx τ M
noncomputable def eO (t u:US):US:=fun D τ M=>t { D with nx:=u D } τ M
noncomputable def oS:US:=fun D τ M=>D.bk τ M
noncomputable def sA:US:=fun D τ M=>D.ct τ M
noncomputable def i5 (te:UE):US:=fun D τ M=>te τ M fun _ M1=>D.nx τ M1
noncomputable def cT (te:UE):US:=fun D τ M=>te τ M D.rt
noncomputable def rL:US:=fun D _ M=>D.rt .non M
noncomputable def jI (c:UT) (t u:US):US:=fun D τ M=>c τ M fun b M1=>if b=true then t D τ M1 else u D τ M1
theorem LO:lI K NG cN:=fun σ τ H M D' rs rm h D d=>d.nx σ τ H M (bA.refl _ _) rm rs h
theorem Pa (h1:lI K t t') (h2:lI K u u'):lI K (Qk t u) (eO t' u'):=fun σ τ H M D' rs rm h D d =>
 h1 σ τ H M _ rs rm h _ ⟨fun σ1 τ1 H1 M1 s rm1 rs1 q=>h2 σ1 τ1 H1 M1 D' rs1 rm1 q D (d.stp s),d.rt,d.bk,d.ct⟩
theorem Mg (h1:cU K te te'):lI K (Nt te) (i5 te'):=fun σ τ H M D' rs rm h D d=>h1 σ τ H M _ rs rm h _ fun u v M1 H1 s rm1 ru q=>d.nx σ τ H1 M1 s rm1 (rs.stp s) q
theorem N2 (h1:cU K te te'):lI K (Qn te) (cT te'):=fun σ τ H M D' rs rm h D d=>h1 σ τ H M _ rs rm h _ fun u v M1 H1 s rm1 ru q=>d.rt u v H1 M1 s rm1 ru q
theorem Od {c:TT} {c':UT} (hc:kO K c c') (h1:lI K t t') (h2:lI K u u'):lI K (QB c t u) (jI c' t' u'):=fun σ τ H M D' rs rm h D d=>hc σ τ H M _ rs rm h _ fun b M1 H1 s rm1 q=>by
 cases b with
 | true=>exact h1 σ τ H1 M1 D' (rs.stp s) rm1 q D (d.stp s)
 | false=>exact h2 σ τ H1 M1 D' (rs.stp s) rm1 q D (d.stp s)
noncomputable abbrev UG:=U->SU->aH->(SU->aH->Prop)->Prop
noncomputable abbrev A4:=List U->SU->aH->(SU->aH->Prop)->Prop
noncomputable def Ae (K:PySem.W.Frag) (g:TG) (g':UG):Prop:=∀ (u:U) (v:V) (σ:St) (τ:SU) (H:Hp) (M:aH) (Q':SU->aH->Prop),aQ K H M u v->fI K H M σ τ->RelM K H M->g' u τ M Q' ->
 ∀ Q:St->Hp->Prop,(∀ σ1 τ1 H1 M1,bA H M H1 M1->RelM K H1 M1->fI K H1 M1 σ1 τ1->Q' τ1 M1->Q σ1 H1)->g v σ H Q
noncomputable def AD (K:PySem.W.Frag) (g:qJ) (g':A4):Prop:=∀ (us:List U) (vs:List V) (σ:St) (τ:SU) (H:Hp) (M:aH) (Q':SU->aH->Prop),aM K H M us vs->fI K H M σ τ->RelM K H M->g' us τ M Q' ->
 ∀ Q:St->Hp->Prop,(∀ σ1 τ1 H1 M1,bA H M H1 M1->RelM K H1 M1->fI K H1 M1 σ1 τ1->Q' τ1 M1->Q σ1 H1)->g vs σ H Q
noncomputable def hName (i:Nat):UG:=fun u τ M Q=>Q (τ.set i (some u)) M
theorem w9 (i:Nat):Ae K (uZ i) (hName i):=fun u v σ τ H M Q' ru rs rm h Q c=>c _ _ H M (bA.refl _ _) rm (rs.set ru) h
noncomputable def cB:A4:=fun us τ M Q=>match us with
 | []=>Q τ M
 | _=>False
noncomputable def bM (g:UG) (r:A4):A4:=fun us τ M Q=>match us with
 | u :: us=>g u τ M fun τ1 M1=>r us τ1 M1 Q
 | _=>False
theorem LA:AD K Ex cB:=fun us vs σ τ H M Q' ru rs rm h Q c=>by
 cases us with
 | nil=>exact ⟨ru.inv_nil,c σ τ H M (bA.refl _ _) rm rs h⟩
 | cons _ _=>exact h.elim
theorem K4 {g:TG} {g':UG} {r:qJ} {r':A4} (h1:Ae K g g') (h2:AD K r r'):AD K (Bg g r) (bM g' r'):=fun us vs σ τ H M Q' ru rs rm h Q c=>by
 cases us with
 | nil=>exact h.elim
 | cons u us =>
  obtain ⟨v,vs',rfl,a,b⟩:=ru.inv_cons
  exact ⟨v,vs',rfl,h1 u v σ τ H M _ a rs rm h _ fun σ1 τ1 H1 M1 s rm1 rs1 q=>h2 us vs' σ1 τ1 H1 M1 Q' (b.stp s) rs1 rm1 q Q fun σ2 τ2 H2 M2 s2=>c σ2 τ2 H2 M2 (s.trans s2)⟩
noncomputable def bV (n:Nat) (r:A4):UG:=fun u τ M Q=>match u with
 | .tup us=>us.length=n/\r us τ M Q
 | _=>False
theorem Lm {n:Nat} {r:qJ} {r':A4} (h2:AD K r r'):Ae K (DF K n r) (bV n r'):=fun u v σ τ H M Q' ru rs rm h Q c=>by
 cases u with
 | tup us =>
  obtain ⟨a,vs,rfl,s1,r1⟩:=ru.tup
  exact ⟨a,vs,rfl,s1,by rw [<- r1.length];exact h.1,h2 us vs σ τ H M Q' r1 rs rm h.2 Q c⟩
 | _=>exact h.elim
noncomputable def bJ (te:UE) (g:UG):US:=fun D τ M=>te τ M fun x M1=>g x τ M1 D.nx
theorem BC {g:TG} {g':UG} (h1:cU K te te') (h2:Ae K g g'):lI K (HH te g) (bJ te' g'):=fun σ τ H M D' rs rm h D d =>
 h1 σ τ H M _ rs rm h _ fun u v M1 H1 s rm1 ru q=>h2 u v σ τ H1 M1 _ ru (rs.stp s) rm1 q _ fun σ1 τ1 H2 M2 s2 rm2 rs2 q2=>d.nx σ1 τ1 H2 M2 (s.trans s2) rm2 rs2 q2
noncomputable def EB (c:UT) (tb:US):US:=fun D τ M=>∃ (P:SU->aH->Prop) (μ:SU->aH->Nat),P τ M/\∀ τ M,P τ M->c τ M fun b M1=>if b=true then tb { D with nx:=fun τ' M'=>P τ' M'/\μ τ' M' < μ τ M,ct:=fun τ' M'=>P τ' M'/\μ τ' M' < μ τ M,bk:=D.nx } τ M1 else D.nx τ M1
theorem Jt {c:TT} {c':UT} (hc:kO K c c') (h1:lI K t t'):lI K (JG c t) (EB c' t'):=fun σ τ H M D' rs rm h D d=>by
 obtain ⟨P,μ,p0,turn⟩:=h
 refine ⟨fun m σ1 H1=>∃ τ1 M1,bA H M H1 M1/\RelM K H1 M1/\fI K H1 M1 σ1 τ1/\P τ1 M1/\m=μ τ1 M1,⟨_,τ,M,bA.refl _ _,rm,rs,p0,rfl⟩,?_⟩
 rintro m σ1 H1 ⟨τ1,M1,s1,rm1,rs1,p1,rfl⟩
 refine hc σ1 τ1 H1 M1 _ rs1 rm1 (turn τ1 M1 p1) _ fun b M2 H2 s2 rm2 q=>?_
 cases b with
 | true =>
  refine ⟨fun σ3 H3=>∃ τ3 M3,bA H M H3 M3/\RelM K H3 M3/\fI K H3 M3 σ3 τ3/\P τ3 M3/\μ τ3 M3 < μ τ1 M1,?_,?_⟩
  ·rintro σ3 H3 ⟨τ3,M3,s3,rm3,rs3,p3,lt⟩
   exact ⟨_,lt,τ3,M3,s3,rm3,rs3,p3,rfl⟩
  ·have d2:=d.stp (s1.trans s2)
   exact h1 σ1 τ1 H2 M2 _ (rs1.stp s2) rm2 q _ ⟨fun σ3 τ3 H3 M3 s3 rm3 rs3 q3=>⟨τ3,M3,(s1.trans s2).trans s3,rm3,rs3,q3.1,q3.2⟩,d2.rt,d2.nx,fun σ3 τ3 H3 M3 s3 rm3 rs3 q3=>⟨τ3,M3,(s1.trans s2).trans s3,rm3,rs3,q3.1,q3.2⟩⟩
 | false=>exact d.nx σ1 τ1 H2 M2 (s1.trans s2) rm2 (rs1.stp s2) q
structure Src where
 own:Option Addr
 xs:List U
noncomputable def Src.ok (S:Src) (M:aH):Prop:=∀ a,S.own=some a->M a=some (.lst S.xs)
structure Walk (K:PySem.W.Frag) (J:It) (S:Src) (H:Hp) (M:aH):Prop where
 step:∀ H1 M1,bA H M H1 M1->RelM K H1 M1->S.ok M1->∀ (i:Nat) u,S.xs[i]?=some u->J.go i H1/\∀ x H2,J.yld i H1 x H2->bA H1 M1 H2 M1/\RelM K H2 M1/\aQ K H2 M1 u x
 stop:∀ H1 M1,bA H M H1 M1->RelM K H1 M1->S.ok M1->J.stop S.xs.length H1
noncomputable abbrev UI:=SU->aH->(Src->aH->Prop)->Prop
noncomputable def nU (K:PySem.W.Frag) (t:TI) (t':UI):Prop:=∀ (σ:St) (τ:SU) (H:Hp) (M:aH) (R':Src->aH->Prop),fI K H M σ τ->RelM K H M->t' τ M R' ->
 ∀ R:It->Hp->Prop,(∀ J S M1 H1,bA H M H1 M1->RelM K H1 M1->Walk K J S H1 M1->R' S M1->R J H1)->t σ H R
noncomputable def L3 (wi:UI) (g:UG) (tb:US):US:=fun D τ M=>wi τ M fun S M1=>∃ P:Nat->SU->aH->Prop,P 0 τ M1/\(∀ i τ M,P i τ M->S.ok M) /\
 (∀ i x τ M,S.xs[i]?=some x->P i τ M->g x τ M fun τ2 M2=>tb { D with nx:=P (i + 1),ct:=P (i + 1),bk:=D.nx } τ2 M2)/\∀ τ M,P S.xs.length τ M->D.nx τ M
theorem OQ {wi:TI} {wi':UI} {g:TG} {g':UG} (hi:nU K wi wi') (hg:Ae K g g') (h1:lI K t t'):lI K (RE wi g t) (L3 wi' g' t'):=fun σ τ H M D' rs rm h D d=>by
 refine hi σ τ H M _ rs rm h _ fun J S M0 H0 s0 rm0 w h=>?_
 obtain ⟨P,p0,hok,turn,fin⟩:=h
 refine ⟨fun i m σ1 H1=>∃ τ1 M1,bA H0 M0 H1 M1/\RelM K H1 M1/\fI K H1 M1 σ1 τ1/\P i τ1 M1/\i<=S.xs.length/\m=S.xs.length - i,⟨_,τ,M0,bA.refl _ _,rm0,rs.stp s0,p0,Nat.zero_le _,rfl⟩,?_⟩
 rintro i m σ1 H1 ⟨τ1,M1,s1,rm1,rs1,p1,hle,rfl⟩
 have ok1:=hok i τ1 M1 p1
 by_cases hlt:i < S.xs.length
 ·obtain ⟨go,yl⟩:=w.step H1 M1 s1 rm1 ok1 i S.xs[i] (by simp [hlt])
  refine .inr ⟨go,fun σ3 H3=>∃ τ3 M3,bA H0 M0 H3 M3/\RelM K H3 M3/\fI K H3 M3 σ3 τ3/\P (i + 1) τ3 M3,?_,fun x H2 y=>?_⟩
  ·rintro σ3 H3 ⟨τ3,M3,s3,rm3,rs3,p3⟩
   exact ⟨S.xs.length - (i + 1),by omega,τ3,M3,s3,rm3,rs3,p3,hlt,rfl⟩
  ·obtain ⟨s2,rm2,ru⟩:=yl x H2 y
   refine hg _ x σ1 τ1 H2 M1 _ ru (rs1.stp s2) rm2 (turn i S.xs[i] τ1 M1 (by simp [hlt]) p1) _ fun σ3 τ3 H3 M3 s3 rm3 rs3 q3=>?_
   have d3:=d.stp (((s0.trans s1).trans s2).trans s3)
   exact h1 σ3 τ3 H3 M3 _ rs3 rm3 q3 _ ⟨fun σ4 τ4 H4 M4 s4 rm4 rs4 q4=>⟨τ4,M4,((s1.trans s2).trans s3).trans s4,rm4,rs4,q4⟩,d3.rt,d3.nx,fun σ4 τ4 H4 M4 s4 rm4 rs4 q4=>⟨τ4,M4,((s1.trans s2).trans s3).trans s4,rm4,rs4,q4⟩⟩
 ·have e:i=S.xs.length:=by omega
  subst e
  exact .inl ⟨w.stop H1 M1 s1 rm1 ok1,d.nx σ1 τ1 H1 M1 (s0.trans s1) rm1 rs1 (fin τ1 M1 p1)⟩
end
end U2
namespace U2
open PySem L2
section
variable {K:PySem.W.Frag}
theorem Ka {a:Addr} {us:List U} {vs:List V} {H:Hp} {M:aH} (m:(M a=none/\Rd H a (.lst vs))\/KL K a vs) (r:aM K H M us vs):Walk K (ND K a) ⟨none,us⟩ H M:=by
 have sq:∀ H1 M1,bA H M H1 M1->eT K H1 a vs:=fun H1 M1 s=>by
  rcases m with ⟨m,h⟩ | k
  ·exact .inl (Rd.stp s m h).2
  ·exact .inr k
 refine ⟨fun H1 M1 s rm _ i u e=>?_,fun H1 M1 s rm _=>⟨vs,sq H1 M1 s,by rw [r.length];exact Nat.le_refl _⟩⟩
 obtain ⟨v,e2,ru⟩:=r.get e
 refine ⟨⟨vs,v,sq H1 M1 s,e2⟩,fun x H2 y=>?_⟩
 obtain ⟨rfl,y⟩:=y
 have:=y vs (sq _ M1 s)
 rw [e2] at this;cases this
 exact ⟨bA.refl _ _,rm,ru.stp s⟩
theorem Mo {a:Addr} {us:List U} {vs:List V} {H:Hp} {M:aH} (m:M a=none/\H a=some (.tup vs)) (r:aM K H M us vs):Walk K (QV K a) ⟨none,us⟩ H M:=by
 have sq:∀ H1 M1,bA H M H1 M1->iO K H1 a vs:=fun H1 M1 s=>by
  exact .inl (.inl (s.to m.2 m.1).1)
 refine ⟨fun H1 M1 s rm _ i u e=>?_,fun H1 M1 s rm _=>⟨vs,sq H1 M1 s,by rw [r.length];exact Nat.le_refl _⟩⟩
 obtain ⟨v,e2,ru⟩:=r.get e
 refine ⟨⟨vs,v,sq H1 M1 s,e2⟩,fun x H2 y=>?_⟩
 obtain ⟨rfl,y⟩:=y
 have:=y vs (sq _ M1 s)
 rw [e2] at this;cases this
 exact ⟨bA.refl _ _,rm,ru.stp s⟩
theorem LW {a:Addr} {us:List U} {H:Hp} {M:aH}:Walk K (ND K a) ⟨some a,us⟩ H M:=by
 refine ⟨fun H1 M1 s rm ok i u e=>?_,fun H1 M1 s rm ok=>?_⟩
 ·obtain ⟨vs,h1,r⟩:=rm a _ (ok a rfl)
  obtain ⟨v,e2,ru⟩:=r.get e
  refine ⟨⟨vs,v,.inl (.inl h1),e2⟩,fun x H2 y=>?_⟩
  obtain ⟨rfl,y⟩:=y
  have:=y vs (.inl (.inl h1))
  rw [e2] at this;cases this
  exact ⟨bA.refl _ _,rm,ru⟩
 ·obtain ⟨vs,h1,r⟩:=rm a _ (ok a rfl)
  exact ⟨vs,.inl (.inl h1),by rw [r.length];exact Nat.le_refl _⟩
noncomputable def Q9 (z:Str):It:=⟨fun i _=>i < z.cps.size,fun i H x H'=>H'=H/\∃ c,z.cps[i]?=some c/\x=.str ⟨#[c]⟩,fun i _=>i=z.cps.size⟩
noncomputable def chars (z:Str):List U:=z.cps.toList.map fun c=>.str ⟨#[c]⟩
theorem MC {z:Str} {H:Hp} {M:aH}:Walk K (Q9 z) ⟨none,chars z⟩ H M:=by
 refine ⟨fun H1 M1 s rm _ i u e=>?_,fun H1 M1 s rm _=>?_⟩
 ·have hi:i < z.cps.size:=by
   have:=(List.getElem?_eq_some_iff.mp e).1
   simpa [chars] using this
  refine ⟨hi,fun x H2 y=>?_⟩
  obtain ⟨rfl,c,h1,rfl⟩:=y
  have:u=.str ⟨#[c]⟩:=by
   simp only [chars,List.getElem?_map,Array.getElem?_toList,h1,Option.map_some] at e
   exact (Option.some.inj e).symm
  subst this
  exact ⟨bA.refl _ _,rm,nZ⟩
 ·show (chars z).length=z.cps.size
  simp [chars]
noncomputable def QY (K:PySem.W.Frag) (tl:TE):TI:=fun σ H R=>tl σ H fun x H1 =>
 (∃ a,x=.ref a/\(∃ xs,eT K H1 a xs)/\R (ND K a) H1)\/(∃ a,x=.ref a/\(∃ xs,iO K H1 a xs)/\R (QV K a) H1)\/(∃ z,x=.str z/\R (Q9 z) H1)
noncomputable def oI (te:UE):UI:=fun τ M R=>te τ M fun u M1=>match u with
 | .lst us=>R ⟨none,us⟩ M1
 | .tup us=>R ⟨none,us⟩ M1
 | .str z=>R ⟨none,chars z⟩ M1
 | .ref a=>match M1 a with
  | some (.lst us)=>R ⟨some a,us⟩ M1
  | _=>False
 | _=>False
theorem Ln {te:TE} {te':UE} (h:cU K te te'):nU K (QY K te) (oI te'):=fun σ τ H M R' rs rm q R c=>h σ τ H M _ rs rm q _ fun u v M1 H1 s1 rm1 ru h1=>by
 cases u with
 | lst us =>
  simp only [aQ] at ru
  obtain ⟨a,vs,rfl,m,r⟩:=ru
  refine .inl ⟨a,rfl,⟨vs,?_⟩,c _ _ M1 H1 s1 rm1 (Ka m r) h1⟩
  rcases m with ⟨_,m⟩ | k
  ·exact .inl m
  ·exact .inr k
 | tup us =>
  simp only [aQ] at ru
  obtain ⟨a,vs,rfl,m,r⟩:=ru
  refine .inr (.inl ⟨a,rfl,⟨vs,?_⟩,c _ _ M1 H1 s1 rm1 (Mo m r) h1⟩)
  exact .inl (.inl m.2)
 | str z=>exact .inr (.inr ⟨z,ru.str,c _ _ M1 H1 s1 rm1 MC h1⟩)
 | ref a =>
  dsimp only at h1
  split at h1
  ·rename_i us e
   obtain ⟨vs,h2,r⟩:=rm1 a _ e
   exact .inl ⟨a,ru.ref,⟨vs,.inl (.inl h2)⟩,c _ _ M1 H1 s1 rm1 LW h1⟩
  ·exact h1.elim
 | _=>exact h1.elim
noncomputable def cH (lo:Int) (n:Nat):List U:=(List.range n).map fun (k:Nat)=>U.int (lo + (k:Int))
theorem Bb {lo:Int} {n:Nat} {H:Hp} {M:aH}:Walk K (Be lo n) ⟨none,cH lo n⟩ H M:=by
 refine ⟨fun H1 M1 s rm _ i u e=>?_,fun H1 M1 s rm _=>?_⟩
 ·have hi:i < n:=by
   have:=(List.getElem?_eq_some_iff.mp e).1
   simpa [cH] using this
  refine ⟨hi,fun x H2 y=>?_⟩
  obtain ⟨rfl,rfl⟩:=y
  have:u=.int (lo + i):=by
   simp only [cH,List.getElem?_map,List.getElem?_range hi,Option.map_some] at e
   exact (Option.some.inj e).symm
  subst this
  exact ⟨bA.refl _ _,rm,dI⟩
 ·show n<=(cH lo n).length
  simp [cH]
noncomputable def oK (ta:UA):UI:=fun τ M R=>ta τ M fun us M1=>match us with
 | [.int j]=>-(2 ^ 62)<=j/\j < 2 ^ 62/\R ⟨none,cH 0 j.toNat⟩ M1
 | _=>False
noncomputable def oN (ta:UA):UI:=fun τ M R=>ta τ M fun us M1=>match us with
 | [.int i,.int j]=>(-(2 ^ 62)<=i/\i < 2 ^ 62/\-(2 ^ 62)<=j/\j < 2 ^ 62)/\R ⟨none,cH i (j - i).toNat⟩ M1
 | _=>False
theorem LI {ta:TA} {ta':UA} (h:lK K ta ta'):nU K (NO ta) (oK ta'):=fun σ τ H M R' rs rm q R c=>h σ τ H M _ rs rm q _ fun us vs M1 H1 s1 rm1 ru h1=>by
 split at h1
 ·rename_i j
  obtain ⟨v,vs',rfl,a,b⟩:=ru.inv_cons
  cases b.inv_nil
  cases a.int
  exact ⟨j,rfl,h1.1,h1.2.1,c _ _ M1 H1 s1 rm1 Bb h1.2.2⟩
 ·exact h1.elim
theorem Nc {ta:TA} {ta':UA} (h:lK K ta ta'):nU K (Nl ta) (oN ta'):=fun σ τ H M R' rs rm q R c=>h σ τ H M _ rs rm q _ fun us vs M1 H1 s1 rm1 ru h1=>by
 split at h1
 ·rename_i i j
  obtain ⟨v,vs',rfl,a,b⟩:=ru.inv_cons
  obtain ⟨v2,vs2,rfl,a2,b2⟩:=b.inv_cons
  cases b2.inv_nil
  cases a.int
  cases a2.int
  exact ⟨i,j,rfl,h1.1,c _ _ M1 H1 s1 rm1 Bb h1.2⟩
 ·exact h1.elim
noncomputable abbrev c8:=List U->aH->UK->Prop
noncomputable def lS (K:PySem.W.Frag) (sp:c8):Sp:=fun vs H Q _=>∃ us M Q',RelM K H M/\aM K H M us vs/\sp us M Q'/\eR K H M Q' Q
noncomputable def oB (sp:c8) (dus:List U) (t:UA):UE:=fun τ M Q=>t τ M fun us M1=>sp (us++dus) M1 Q
theorem MB {sp:c8} {dus:List U} {dvs:List V} {E:XK} {t:TA} {t':UA} (hd:∀ H M,aM K H M dus dvs) (h:lK K t t'):cU K (HA (lS K sp) dvs E t) (oB sp dus t'):=fun σ τ H M Q' rs rm q Q c =>
 h σ τ H M _ rs rm q _ fun us vs M1 H1 s1 rm1 ru h1=>⟨us++dus,M1,Q',rm1,ru.append (hd _ _),h1,eR.stp c s1⟩
noncomputable def Sub (M' M1:aH):Prop:=∀ b mo,M' b=some mo->M1 b=some mo
theorem Sub.refl (M:aH):Sub M M:=fun _ _ h=>h
theorem Sub.mup {M M1:aH} {p:Addr} {o:MO} (h:Sub M M1) (hp:M p=none):Sub M (mup M1 p o):=fun b mo e=>by
 have:b≠p:=fun z=>by subst z;rw [hp] at e;cases e
 rw [aK this];exact h b mo e
theorem Sub.less {M M1:aH} (h:Sub M M1) {H:Hp}:bA H M1 H M:=bA.less fun b e=>by
 cases q:M b with
 | none=>rfl
 | some mo=>rw [h b mo q] at e;cases e
theorem RelM.sub {H:Hp} {M M1:aH} (rm:RelM K H M1) (h:Sub M M1):RelM K H M:=fun a mo e=>(rm a mo (h a mo e)).stp (fun b q z=>h b _ z) (h.less) rfl
noncomputable def Out (M1 M':aH) (u u':U):Prop:=u'=u\/∃ a us,u=.ref a/\M1 a=some (.lst us)/\M' a=none/\u'=.lst us
noncomputable def kD (Q:UK):UK:=fun u M1=>∃ u' M',Sub M' M1/\Out M1 M' u u'/\Q u' M'
theorem kD.ok {H H1:Hp} {M M1:aH} {Q':UK} {Q:VK} {u:U} {v:V} (c:eR K H M Q' Q) (s:bA H M H1 M1) (rm:RelM K H1 M1) (ru:aQ K H1 M1 u v) (h:kD Q' u M1):Q v H1:=by
 obtain ⟨u',M',sb,o,q⟩:=h
 have s':bA H1 M1 H1 M':=sb.less
 refine c u' v M' H1 (s.trans s') (rm.sub sb) ?_ q
 rcases o with rfl | ⟨a,us,rfl,h1,h2,rfl⟩
 ·exact ru.stp s'
 ·obtain ⟨vs,h3,h4⟩:=rm a _ h1
  cases ru.ref
  exact vB h2 h3 (h4.stp s')
noncomputable def iC (N:List Str) (us:List U):SU:=us.map some++List.replicate (N.length - us.length) none
noncomputable def FT (M:aH) (x:U):Prop:=∃ us,view M x=.lst us
noncomputable def wF (r:U->List U->aH->UK->Prop) (to:UE) (t:UA):UE:=fun τ M Q=>to τ M fun x M1=>FT M1 x/\t τ M1 fun xs M2=>r x xs M2 Q
noncomputable def tH (r:U->List U->aH->UK->Prop) (to:UE):UE:=fun τ M Q=>to τ M fun x M1=>FT M1 x/\r x [] M1 Q
theorem FT.ty {H:Hp} {M:aH} {u:U} {v:V} (rm:RelM K H M) (ru:aQ K H M u v) (h:FT M u):Np K "list" v H:=by
 obtain ⟨us,h⟩:=h
 obtain ⟨a,vs,rfl,s,_⟩:=fK rm ru h
 exact .inl ⟨rfl,vs,s⟩
theorem D3 {r:V->List V->Hp->VK->Prop} {r':U->List U->aH->UK->Prop} {to:TE} {to':UE} {t:TA} {t':UA} (hr:yL K r r') (ho:cU K to to') (h:lK K t t') :
  cU K (S4 K "list" r to t) (wF r' to' t'):=fun σ τ H M Q' rs rm q Q c =>
 ho σ τ H M _ rs rm q _ fun u v M1 H1 s1 rm1 ru h1=>⟨h1.1.ty rm1 ru,h σ τ H1 M1 _ (rs.stp s1) rm1 h1.2 _ fun us vs M2 H2 s2 rm2 rus h2=>hr v vs u us H2 M2 Q' rm2 (ru.stp s2) rus h2 Q (eR.stp c (s1.trans s2))⟩
theorem O4 {r:V->List V->Hp->VK->Prop} {r':U->List U->aH->UK->Prop} {to:TE} {to':UE} (hr:yL K r r') (ho:cU K to to') :
  cU K (QZ K "list" r to) (tH r' to'):=fun σ τ H M Q' rs rm q Q c =>
 ho σ τ H M _ rs rm q _ fun u v M1 H1 s1 rm1 ru h1=>⟨h1.1.ty rm1 ru,hr v [] u [] H1 M1 Q' rm1 ru .nil h1.2 Q (eR.stp c s1)⟩
theorem eR.write {H:Hp} {M:aH} {Q':UK} {Q:VK} {a:Addr} {us us':List U} {xs':List V} {r:U} {v:V} (c:eR K H M Q' Q) (rm:RelM K H M) (e:M a=some (.lst us)) (r1:aM K H M us' xs') (r2:aQ K H M r v) (q:Q' r (mup M a (.lst us'))):Q v (upd H a (.lst xs')):=by
 have st:bA H M (upd H a (.lst xs')) (mup M a (.lst us')):=bA.write e
 exact c _ _ _ _ st (rm.put st ⟨xs',c5,r1.stp st⟩) (r2.stp st) q
noncomputable def jV:U->List U->aH->UK->Prop:=fun x ws M Q=>match x,ws with
 | .ref a,[w]=>match M a with
  | some (.lst us)=>us.length < sizeLine/\Q .non (mup M a (.lst (us++[w])))
  | _=>False
 | _,_=>False
theorem Hm:yL K FX jV:=fun x xs u us H M Q' rm ru rus h Q c=>by
 unfold jV at h
 split at h
 ·rename_i a w
  split at h
  ·rename_i ws e
   obtain ⟨vs,h1,r⟩:=rm a _ e
   obtain ⟨v,vs',rfl,a1,b⟩:=rus.inv_cons
   cases b.inv_nil
   cases ru.ref
   exact ⟨a,vs,v,rfl,rfl,h1,by rw [<- r.length];exact h.1,c.write rm e (r.append (.cons a1 .nil)) uX h.2⟩
  ·exact h.elim
 ·exact h.elim
noncomputable def qK:U->List U->aH->UK->Prop:=fun x ws M Q=>match x,ws with
 | .ref a,[]=>match M a with
  | some (.lst us)=>match us.getLast? with
   | some w=>Q w (mup M a (.lst us.dropLast))
   | none=>False
  | _=>False
 | _,_=>False
theorem OR:yL K RK qK:=fun x xs u us H M Q' rm ru rus h Q c=>by
 unfold qK at h
 split at h
 ·rename_i a
  split at h
  ·rename_i ws e
   split at h
   ·rename_i w e2
    obtain ⟨vs,h1,r⟩:=rm a _ e
    cases rus.inv_nil
    cases ru.ref
    rw [List.getLast?_eq_getElem?] at e2
    obtain ⟨v,h3,h4⟩:=r.get e2
    exact ⟨a,vs,v,rfl,rfl,h1,by rw [<- r.length];exact h3,c.write rm e r.dropLast h4 h⟩
   ·exact h.elim
  ·exact h.elim
 ·exact h.elim
noncomputable def EC (K:PySem.W.Frag):V->List V->Hp->VK->Prop:=fun x vs H Q=>∃ l b xs zs,x=.ref l/\vs=[.ref b]/\H l=some (.lst xs)/\eT K H b zs/\xs.length + zs.length<=sizeLine/\Q .non (upd H l (.lst (xs++zs)))
noncomputable def jS:U->List U->aH->UK->Prop:=fun x ws M Q=>match x,ws with
 | .ref a,[w]=>match M a,view M w with
  | some (.lst us),.lst zs=>us.length + zs.length<=sizeLine/\Q .non (mup M a (.lst (us++zs)))
  | _,_=>False
 | _,_=>False
theorem HQ:yL K (EC K) jS:=fun x xs u us H M Q' rm ru rus h Q c=>by
 unfold jS at h
 split at h
 ·rename_i a w
  split at h
  ·rename_i ws zs e e2
   obtain ⟨vs,h1,r⟩:=rm a _ e
   obtain ⟨v,vs',rfl,a1,b⟩:=rus.inv_cons
   cases b.inv_nil
   cases ru.ref
   obtain ⟨b,zvs,rfl,s2,r2⟩:=fK rm a1 e2
   exact ⟨a,b,vs,zvs,rfl,rfl,h1,s2,by rw [<- r.length,<- r2.length];exact h.1,c.write rm e (r.append r2) uX h.2⟩
  ·exact h.elim
 ·exact h.elim
noncomputable def o3:U->List U->aH->UK->Prop:=fun x ws M Q=>match x,ws with
 | .ref a,[]=>match M a with
  | some (.lst us)=>Q .non (mup M a (.lst []))
  | _=>False
 | _,_=>False
noncomputable def qZ:List U->aH->UK->Prop:=fun us M Q=>match us with
 | [x]=>match view M x with
  | .lst ws=>Q (.int ws.length) M
  | .tup ws=>Q (.int ws.length) M
  | .str z=>z.length<=sizeLine/\Q (.int z.length) M
  | _=>False
 | _=>False
theorem Py:rF K (fun xs H Q=>∃ x n,xs=[x]/\RL K x H n/\Q (.int n) H) qZ:=fun xs us H M Q' rm rus h Q c=>by
 unfold qZ at h
 split at h
 ·rename_i x
  obtain ⟨v,vs',rfl,a1,b⟩:=rus.inv_cons
  cases b.inv_nil
  split at h
  ·rename_i ws e
   obtain ⟨b,zvs,rfl,s2,r2⟩:=fK rm a1 e
   exact ⟨_,zvs.length,rfl,.inl ⟨zvs,s2,rfl⟩,c.here rm dI (by rw [<- r2.length];exact h)⟩
  ·rename_i ws e
   have e':=qW e
   subst e'
   obtain ⟨b,zvs,rfl,s2,r2⟩:=a1.tup
   exact ⟨_,zvs.length,rfl,.inr ⟨zvs,s2,rfl⟩,c.here rm dI (by rw [<- r2.length];exact h)⟩
  ·rename_i z e
   have e':=zY e
   subst e'
   cases a1.str
   exact ⟨_,z.length,rfl,⟨h.1,rfl⟩,c.here rm dI h.2⟩
  ·exact h.elim
 ·exact h.elim
noncomputable def mY (C:Int->Prop) (g:Int->U):List U->aH->UK->Prop:=fun us M Q=>match us with
 | [.int i]=>C i/\Q (g i) M
 | _=>False
noncomputable def mN (g:Int->Int->U):List U->aH->UK->Prop:=fun us M Q=>match us with
 | [.int i,.int j]=>Q (g i j) M
 | _=>False
theorem aM.one {H:Hp} {M:aH} {u:U} {vs:List V} (h:aM K H M [u] vs):∃ v,vs=[v]/\aQ K H M u v:=by
 obtain ⟨v,vs',rfl,a1,b⟩:=h.inv_cons
 cases b.inv_nil
 exact ⟨v,rfl,a1⟩
theorem aM.two {H:Hp} {M:aH} {u w:U} {vs:List V} (h:aM K H M [u,w] vs):∃ v z,vs=[v,z]/\aQ K H M u v/\aQ K H M w z:=by
 obtain ⟨v,vs',rfl,a1,b⟩:=h.inv_cons
 obtain ⟨z,rfl,b1⟩:=b.one
 exact ⟨v,z,rfl,a1,b1⟩
theorem NY:rF K (fun xs H Q=>∃ i,xs=[.int i]/\Q (.int (if i < 0 then -i else i)) H) (mY (fun _=>True) fun i=>.int (if i < 0 then -i else i)):=fun xs us H M Q' rm rus h Q c=>by
 unfold mY at h
 split at h
 ·rename_i i
  obtain ⟨v,rfl,a⟩:=rus.one
  cases a.int
  exact ⟨i,rfl,c.here rm dI h.2⟩
 ·exact h.elim
theorem Lk:rF K (fun xs H Q=>∃ i j,xs=[.int i,.int j]/\Q (.int (if j < i then j else i)) H) (mN fun i j=>.int (if j < i then j else i)):=fun xs us H M Q' rm rus h Q c=>by
 unfold mN at h
 split at h
 ·rename_i i j
  obtain ⟨v,z,rfl,a,b⟩:=rus.two
  cases a.int
  cases b.int
  exact ⟨i,j,rfl,c.here rm dI h⟩
 ·exact h.elim
noncomputable def mW (o:Bool):List U->aH->UK->Prop:=fun us M Q=>match us with
 | [x]=>match view M x with
  | .lst ws=>jL o ws M Q
  | .tup ws=>jL o ws M Q
  | _=>False
 | _=>False
noncomputable def kK:List U->aH->UK->Prop:=fun us M Q=>match us with
 | [x]=>match view M x with
  | .lst ws=>Q (.tup ws) M
  | .tup ws=>Q (.tup ws) M
  | _=>False
 | _=>False
theorem Mx {o:Bool}:rF K (fun xs H Q=>∃ p ys,xs=[.ref p]/\(eT K H p ys\/iO K H p ys)/\∀ l,H l=none->Q (.ref l) (upd H l (.lst ys))) (mW o):=fun xs us H M Q' rm rus h Q c=>by
 unfold mW at h
 split at h
 ·rename_i x
  obtain ⟨v,rfl,a1⟩:=rus.one
  split at h
  ·rename_i ws e
   obtain ⟨b,zvs,rfl,s2,r2⟩:=fK rm a1 e
   exact ⟨b,zvs,rfl,.inl s2,fun l hl=>c.lst rm r2 hl h⟩
  ·rename_i ws e
   have e':=qW e
   subst e'
   obtain ⟨b,zvs,rfl,s2,r2⟩:=a1.tup
   exact ⟨b,zvs,rfl,.inr s2,fun l hl=>c.lst rm r2 hl h⟩
  ·exact h.elim
 ·exact h.elim
theorem Kw:rF K (fun xs H Q=>∃ p ys,xs=[.ref p]/\((eT K H p ys/\∀ l,H l=none->Q (.ref l) (upd H l (.tup ys)))\/(iO K H p ys/\Q (.ref p) H))) kK:=fun xs us H M Q' rm rus h Q c=>by
 unfold kK at h
 split at h
 ·rename_i x
  obtain ⟨v,rfl,a1⟩:=rus.one
  split at h
  ·rename_i ws e
   obtain ⟨b,zvs,rfl,s2,r2⟩:=fK rm a1 e
   exact ⟨b,zvs,rfl,.inl ⟨s2,fun l hl=>c.tup rm r2 hl h⟩⟩
  ·rename_i ws e
   have e':=qW e
   subst e'
   have a2:=a1
   obtain ⟨b,zvs,rfl,s2,r2⟩:=a1.tup
   exact ⟨b,zvs,rfl,.inr ⟨s2,c.here rm a2 h⟩⟩
  ·exact h.elim
 ·exact h.elim
noncomputable def sS (M:aH) (x:U):Option String:=match x with
 | .non=>some "NoneType"
 | .bl _=>some "bool"
 | .int _=>some "int"
 | .str _=>some "str"
 | .tup _=>some "tuple"
 | .lst _=>some "list"
 | .ref a=>match M a with
  | some (.lst _)=>some "list"
  | some (.dK _)=>some "dict"
  | some (.dT _)=>some "dict"
  | _=>none
 | .dic _ _ _=>some "dict"
 | .ty _=>none
noncomputable def Jq:U->U->Option Bool
 | .non,.non=>some true
 | .non,.int _=>some false | .int _,.non=>some false | .non,.bl _=>some false | .bl _,.non=>some false | .non,.str _=>some false | .str _,.non=>some false
 | .int i,.int j=>some (decide (i=j))
 | .bl i,.bl j=>some (decide (i=j))
 | .str i,.str j=>some (decide (i=j))
 | .int _,.str _=>some false | .str _,.int _=>some false | .bl _,.str _=>some false | .str _,.bl _=>some false
 | _,_=>none
noncomputable def wV:fF:=fun x y M Q=>match Jq x y with
 | some b=>Q (.bl b) M
 | none=>False
noncomputable def wQ:fF:=fun x y M Q=>match Jq x y with
 | some b=>Q (.bl (!b)) M
 | none=>False
theorem Gh {H:Hp} {M:aH} {x y:V} {u w:U} {b:Bool} (ru:aQ K H M u x) (rw:aQ K H M w y) (h:Jq u w=some b):HU x y=true/\decide (x=y)=b:=by
 cases u <;> cases w <;> simp only [Jq,Option.some.injEq,reduceCtorEq] at h <;> subst h <;>
  (first
   | (cases ru.non) | (cases ru.bl) | (cases ru.int) | (cases ru.str)) <;>
  (first
   | (cases rw.non) | (cases rw.bl) | (cases rw.int) | (cases rw.str)) <;> simp [HU]
noncomputable def h7:U->Bool
 | .non=>true
 | _=>false
noncomputable def xW:fF:=fun x y M Q=>match y with
 | .non=>Q (.bl (h7 x)) M
 | _=>False
noncomputable def r9:fF:=fun x y M Q=>match y with
 | .non=>Q (.bl (!h7 x)) M
 | _=>False
theorem Tj {H:Hp} {M:aH} {x:V} {u:U} (ru:aQ K H M u x):decide (x=.non)=h7 u:=by
 cases u with
 | non=>cases ru.non;simp [h7]
 | bl b=>cases ru.bl;simp [h7]
 | int b=>cases ru.int;simp [h7]
 | str b=>cases ru.str;simp [h7]
 | ty b=>cases ru.ty;simp [h7]
 | ref b=>cases ru.ref;simp [h7]
 | tup b=>obtain ⟨a,vs,rfl,_⟩:=ru.tup;simp [h7]
 | lst b=>obtain ⟨a,vs,rfl,_⟩:=ru.lst;simp [h7]
 | dic ks tk us=>simp only [aQ] at ru;obtain ⟨a,vs,rfl,_⟩:=ru;simp [h7]
end
end U2
namespace U2
open PySem L2
noncomputable def eQ {α:Type} (k:Nat) (ix:List Nat) (σ:List (Option α)):List (Option α):=List.replicate k none++ix.map fun i=>(σ[i]?).getD none
noncomputable def C8 (k:Nat) (ix:List Nat) (wi:TI) (g:TG) (tc:TT) (te:TE):TE:=fun σ H Q=>wi σ H fun J H1=>∀ D,H1 D=none->∃ W:Nat->Nat->Hp->Prop,(∃ m,W 0 m (upd H1 D (.lst [])))/\∀ i m H,W i m H ->
 (J.stop i H/\Q (.ref D) H)\/(J.go i H/\∀ x H',J.yld i H x H'->g x (eQ k ix σ) H' fun σ2 H2=>tc σ2 H2 fun ok H3 =>
  if ok=true then te σ2 H3 fun y H4=>∃ ys,H4 D=some (.lst ys)/\ys.length < sizeLine/\∃ m',m' < m/\W (i + 1) m' (upd H4 D (.lst (ys++[y]))) else ∃ m',m' < m/\W (i + 1) m' H3)
noncomputable def QG (o:Bool) (Q:UK) (D:Addr) (ys:List U) (M:aH):Prop:=match o with
 | true=>Q (.ref D) M
 | false=>∃ M',Sub M' M/\M' D=none/\Q (.lst ys) M'
noncomputable def uR (o:Bool) (k:Nat) (ix:List Nat) (wi:UI) (g:UG) (tc:UT) (te:UE):UE:=fun τ M Q=>wi τ M fun S M1=>S.xs.length<=sizeLine/\∀ D,M1 D=none->∃ P:Nat->List U->aH->Prop,P 0 [] (mup M1 D (.lst [])) /\
 (∀ i ys M,P i ys M->S.ok M/\M D=some (.lst ys)/\ys.length<=i) /\
 (∀ i x ys M,S.xs[i]?=some x->P i ys M->g x (eQ k ix τ) M fun τ2 M2=>tc τ2 M2 fun ok M3=>if ok=true then te τ2 M3 fun y M4=>M4 D=some (.lst ys)/\P (i + 1) (ys++[y]) (mup M4 D (.lst (ys++[y]))) else P (i + 1) ys M3) /\
 ∀ ys M,P S.xs.length ys M->QG o Q D ys M
section
variable {K:PySem.W.Frag}
theorem L7 {H:Hp} {M:aH} {σ:St} {τ:SU} (k:Nat) (ix:List Nat) (r:fI K H M σ τ):fI K H M (eQ k ix σ) (eQ k ix τ):=by
 refine ⟨by simp [eQ],fun i u e=>?_⟩
 unfold eQ at e ⊢
 by_cases hi:i < k
 ·rw [List.getElem?_append_left (by simpa using hi),List.getElem?_replicate] at e
  split at e <;> cases e
 ·rw [List.getElem?_append_right (by simpa using Nat.le_of_not_lt hi),List.getElem?_map] at e ⊢
  simp only [List.length_replicate] at e ⊢
  cases q:ix[i - k]? with
  | none=>rw [q] at e;cases e
  | some j =>
   rw [q] at e
   simp only [Option.map_some,Option.some.injEq] at e ⊢
   cases z:τ[j]? with
   | none=>rw [z] at e;cases e
   | some w =>
    rw [z] at e
    simp only [Option.getD_some] at e
    subst e
    obtain ⟨v,h1,h2⟩:=r.2 j u z
    exact ⟨v,by rw [h1];rfl,h2⟩
theorem Eu {o:Bool} {k:Nat} {ix:List Nat} {wi:TI} {wi':UI} {g:TG} {g':UG} {tc:TT} {tc':UT} {te:TE} {te':UE} (hi:nU K wi wi') (hg:Ae K g g') (hc:kO K tc tc') (he:cU K te te') :
  cU K (C8 k ix wi g tc te) (uR o k ix wi' g' tc' te'):=fun σ τ H M Q' rs rm h Q c=>by
 refine hi σ τ H M _ rs rm h _ fun J S M1 H1 s1 rm1 w h=>?_
 obtain ⟨hz,h⟩:=h
 intro D hD
 obtain ⟨P,p0,inv,turn,fin⟩:=h D (rm1.no hD)
 have sD:bA H1 M1 (upd H1 D (.lst [])) (mup M1 D (.lst [])):=bA.own rm1 hD
 have rmD:RelM K (upd H1 D (.lst [])) (mup M1 D (.lst [])):=rm1.put sD ⟨[],c5,.nil⟩
 refine ⟨fun i m H2=>∃ M2 ys,bA H1 M1 H2 M2/\RelM K H2 M2/\P i ys M2/\i<=S.xs.length/\m=S.xs.length - i,⟨_,_,[],sD,rmD,p0,Nat.zero_le _,rfl⟩,?_⟩
 rintro i m H2 ⟨M2,ys,s2,rm2,p2,hle,rfl⟩
 obtain ⟨ok2,d2,l2⟩:=inv i ys M2 p2
 by_cases hlt:i < S.xs.length
 ·obtain ⟨go,yl⟩:=w.step H2 M2 s2 rm2 ok2 i S.xs[i] (by simp [hlt])
  refine .inr ⟨go,fun x H3 y=>?_⟩
  obtain ⟨s3,rm3,ru⟩:=yl x H3 y
  have rs3:fI K H3 M2 (eQ k ix σ) (eQ k ix τ):=L7 k ix (((rs.stp s1).stp s2).stp s3)
  refine hg _ x _ _ H3 M2 _ ru rs3 rm3 (turn i S.xs[i] ys M2 (by simp [hlt]) p2) _ fun σ4 τ4 H4 M4 s4 rm4 rs4 q4=>?_
  refine hc σ4 τ4 H4 M4 _ rs4 rm4 q4 _ fun b M5 H5 s5 rm5 q5=>?_
  have s25:bA H1 M1 H5 M5:=((s2.trans s3).trans s4).trans s5
  cases b with
  | false =>
   exact ⟨S.xs.length - (i + 1),by omega,M5,ys,s25,rm5,q5,hlt,rfl⟩
  | true =>
   refine he σ4 τ4 H5 M5 _ (rs4.stp s5) rm5 q5 _ fun u v M6 H6 s6 rm6 ru6 q6=>?_
   obtain ⟨d6,p6⟩:=q6
   obtain ⟨vs,h6,r6⟩:=rm6 D _ d6
   have l6:vs.length < sizeLine:=by rw [<- r6.length];omega
   have s7:bA H6 M6 (upd H6 D (.lst (vs++[v]))) (mup M6 D (.lst (ys++[u]))):=bA.write d6
   exact ⟨vs,h6,l6,S.xs.length - (i + 1),by omega,_,ys++[u],(s25.trans s6).trans s7,rm6.put s7 ⟨_,c5,(r6.append (.cons ru6 .nil)).stp s7⟩,p6,hlt,rfl⟩
 ·have e:i=S.xs.length:=by omega
  subst e
  refine .inl ⟨w.stop H2 M2 s2 rm2 ok2,?_⟩
  have q:=fin ys M2 p2
  cases o with
  | true=>exact c _ _ M2 H2 (s1.trans s2) rm2 rB q
  | false =>
   obtain ⟨M',sb,n,q⟩:=q
   obtain ⟨vs,h6,r6⟩:=rm2 D _ d2
   have s':bA H2 M2 H2 M':=sb.less
   exact c _ _ M' H2 ((s1.trans s2).trans s') (rm2.sub sb) (vB n h6 (r6.stp s')) q
end
theorem KC {o:Bool} {k:Nat} {ix:List Nat} {wi:UI} {g:UG} {tc:UT} {te:UE} {τ:SU} {M1:aH} {Q:UK} {S:Src} (f:U->Option U) (hz:S.xs.length<=sizeLine) (hs:S.ok M1)
  (h:∀ x∈S.xs,∀ M,Sub M1 M->∀ R:Option U->aH->Prop,R (f x) M->g x (eQ k ix τ) M fun τ2 M2=>tc τ2 M2 fun ok M3=>if ok=true then te τ2 M3 fun y M4=>R (some y) M4 else R none M3)
  (q:jL o (S.xs.filterMap f) M1 Q):S.xs.length<=sizeLine/\∀ D,M1 D=none->∃ P:Nat->List U->aH->Prop,P 0 [] (mup M1 D (.lst [])) /\
 (∀ i ys M,P i ys M->S.ok M/\M D=some (.lst ys)/\ys.length<=i) /\
 (∀ i x ys M,S.xs[i]?=some x->P i ys M->g x (eQ k ix τ) M fun τ2 M2=>tc τ2 M2 fun ok M3=>if ok=true then te τ2 M3 fun y M4=>M4 D=some (.lst ys)/\P (i + 1) (ys++[y]) (mup M4 D (.lst (ys++[y]))) else P (i + 1) ys M3) /\
 ∀ ys M,P S.xs.length ys M->QG o Q D ys M:=by
 refine ⟨hz,fun D hD=>⟨fun i ys M=>ys=(S.xs.take i).filterMap f/\M=mup M1 D (.lst ys)/\i<=S.xs.length,⟨by simp,rfl,Nat.zero_le _⟩,?_,?_,?_⟩⟩
 ·rintro i ys M ⟨rfl,rfl,hi⟩
  refine ⟨fun a e=>?_,aI,?_⟩
  ·have:=hs a e
   rw [aK (fun z=>by subst z;rw [hD] at this;cases this)]
   exact this
  ·refine Nat.le_trans (List.length_filterMap_le _ _) ?_
   rw [List.length_take];omega
 ·rintro i x ys M e ⟨rfl,rfl,hi⟩
  have hlt:i < S.xs.length:=(List.getElem?_eq_some_iff.mp e).1
  have hx:x∈S.xs:=List.mem_of_getElem? e
  have tk:(S.xs.take (i + 1)).filterMap f=(S.xs.take i).filterMap f++(f x).toList:=by
   rw [List.take_add_one,e,List.filterMap_append]
   cases q:f x <;> simp [q]
  refine h x hx (mup M1 D (.lst ((S.xs.take i).filterMap f))) ((Sub.refl M1).mup hD) (fun r M4=>match r with
   | some y=>M4 D=some (.lst ((S.xs.take i).filterMap f))/\((S.xs.take i).filterMap f++[y]=(S.xs.take (i + 1)).filterMap f/\mup M4 D (.lst ((S.xs.take i).filterMap f++[y]))=mup M1 D (.lst ((S.xs.take i).filterMap f++[y]))/\i + 1<=S.xs.length)
   | none=>(S.xs.take i).filterMap f=(S.xs.take (i + 1)).filterMap f/\M4=mup M1 D (.lst ((S.xs.take i).filterMap f))/\i + 1<=S.xs.length) ?_
  rw [tk]
  cases f x with
  | none=>exact ⟨by simp,rfl,hlt⟩
  | some y=>exact ⟨aI,rfl,gG,hlt⟩
 ·rintro ys M ⟨rfl,rfl,hi⟩
  rw [List.take_length]
  cases o with
  | true=>exact q D hD
  | false=>exact ⟨M1,(Sub.refl M1).mup hD,hD,q⟩
end U2
namespace U2
open PySem PySem.Spec PyProof.Rows L2
theorem Ek {P:Program} {w:World} {K:PySem.W.Frag} {tg:Expr} {ty:String} (z:Str) (t:Tok) (it:Addr)
  (W:∀ A':Around,A'.handled=none->Walks P w A' it [it] [it] z.cps.size (SignAt z) (fun i h=>h.IsStrIter it ty z t i))
  (hty:["enumerate","zip","dict_itemiterator","dict_reverseitemiterator","odict_iterator","itertools.zip_longest","itertools.pairwise"].contains ty=false)
  (self:∀ (A:Around) (i:Nat) (s:Shared) (Q:Value->Shared->Prop) (E:Value->Shared->Prop),s.heap.IsStrIter it ty z t i->Q (.ref it) s->wpAny (model P w) A (pyIter (.ref it)) Q E s) :
  Turn P w K tg (Q9 z) [it] it (fun i h=>h.IsStrIter it ty z t i) where
 mem:=by simp
 obj:=fun i h st b hb=>by
  have e:b=it:=by simpa using hb
  subst e
  obtain ⟨o,e,c,d⟩:=st
  exact ⟨o,e,fun v z=>by rw [d] at z;cases z⟩
 keep:=fun i h h' st k=>let ⟨o,ho,r⟩:=st;⟨o,k it (by simp) o ho,r⟩
 item:=by
  intro X hP hw hK hc i pins s σ H E I hf st hg
  subst hP hw hK
  obtain ⟨f0,f1,f2,f3,f4,f5⟩:=hf it (by simp)
  refine (W X.A (I.ok.hd hc)).item i s _ E hg st fun v h' tk hv st' k=>?_
  obtain ⟨c,u,hc',rfl⟩:=hv
  have I1:Inv X pins σ H { s with heap:=h',toks:=tk }:=I.turned (t':=tk) (fun b o hb e=>k b o (by simpa using hb) e) f0 f1 f3 f4 f5
  obtain ⟨o,e,cl,d⟩:=id st'
  exact ⟨_,rfl,vY (s:={ s with heap:=h',toks:=tk }) e cl d hty ⟨.str ⟨#[c]⟩,H,I1,⟨_,rfl⟩,⟨rfl,c,hc',rfl⟩,st',fun b hb=>(hf b hb).1⟩⟩
 done:=by
  intro X hP hw hK hc i pins s σ H E I hf st hg
  subst hP hw hK
  have hg':i=z.cps.size:=hg
  subst hg'
  obtain ⟨f0,f1,f2,f3,f4,f5⟩:=hf it (by simp)
  exact (W X.A (I.ok.hd hc)).done s _ E st fun h' tk k=>⟨rfl,I.turned (t':=tk) (fun b o hb e=>k b o (by simpa using hb) e) f0 f1 f3 f4 f5⟩
 self:=self
section
variable {X:Cx} {tg:Expr}
theorem RV {l:Expr} {tl:TE} (hl:PE X l tl):PI X tg l (QY X.K tl):=by
 intro pins s σ H R I h
 refine bR (hl pins s σ H _ I h) fun v s1 ⟨x,H1,I1,r1,q1⟩=>?_
 have fp:∀ b∈[s1.heap.objs.size],t9 X pins H1 b:=fun b hb=>by
  have e:b=s1.heap.objs.size:=by simpa using hb
  subst e
  exact I1.fpOk (Nat.le_refl _) (I1.hok.fresh (Nat.le_refl _))
 rcases q1 with ⟨a,rfl,⟨xs,hq⟩,q⟩ | ⟨a,rfl,⟨xs,hq⟩,q⟩ | ⟨z,rfl,q⟩
 ·cases r1
  obtain ⟨its,rv,p,hz⟩:=I1.list hq
  refine wpAny_pyIter_list p.isList ?_
  exact ⟨s1.heap.objs.size,[s1.heap.objs.size],_,_,H1,rfl,I1.kept (t':=s1.toks) fun b o e=>Heap.get?_push_of_some _ e,IW a _,⟨_,Heap.get?_push_size _ rfl,rfl,rfl⟩,fp,q⟩
 ·cases r1
  obtain ⟨its,rv,p,hz⟩:=I1.tuple hq
  refine wpAny_pyIter_tuple (show s1.heap.IsTuple a its.toArray from p) ?_
  exact ⟨s1.heap.objs.size,[s1.heap.objs.size],_,_,H1,rfl,I1.kept (t':=s1.toks) fun b o e=>Heap.get?_push_of_some _ e,HF a _,⟨_,Heap.get?_push_size _ rfl,rfl,rfl⟩,fp,q⟩
 ·obtain ⟨t,rfl⟩:=r1
  cases ha:z.cps.all (· < 128)
  ·refine wpAny_pyIter_wide ha ?_
   exact ⟨s1.heap.objs.size,[s1.heap.objs.size],_,_,H1,rfl,I1.kept (t':=s1.toks) fun b o e=>Heap.get?_push_of_some _ e,
    Ek z t _ (fun A' hA=>Walks.strWide hA _ z t) (by decide) (fun A i s Q E st h=>wpAny_pyIter_striter_wide st h),⟨_,Heap.get?_push_size _ rfl,rfl,rfl⟩,fp,q⟩
  ·refine wpAny_pyIter_ascii ha ?_
   exact ⟨s1.heap.objs.size,[s1.heap.objs.size],_,_,H1,rfl,I1.kept (t':=s1.toks) fun b o e=>Heap.get?_push_of_some _ e,
    Ek z t _ (fun A' hA=>Walks.strAscii hA _ z t) (by decide) (fun A i s Q E st h=>wpAny_pyIter_striter_ascii st h),⟨_,Heap.get?_push_size _ rfl,rfl,rfl⟩,fp,q⟩
end
section
variable {prog:Program} {w:World} {A:Around} {R:Result->Shared->Prop} {s:Shared}
theorem Fs {elt target iter:Expr} {ifs:List Expr} {scope:Scope} {pos:Pos} {it acc:Value} {env:Env} (I:Nat->Shared->Prop)
  (turn:∀ n s,I n s->wpAny (model prog w) A (pyNext it) (fun r s₁=>match r with
   | none=>R (.ok .next) s₁
   | some v=>wpAny (model prog w) A (letOwnedTupleGo target it v) (fun _ s₀=>wpAny (model prog w) A (assign target env v) (fun _ s₂ =>
     wpAny (model prog w) A (forIn ifs true fun c r=>if r=true then do let ok <- isTrue c env (eval c env);pure (ForInStep.yield ok) else pure (ForInStep.yield r)) (fun ok s₃ =>
      if ok=true then wpAny (model prog w) A (eval elt env) (fun x s₄ =>
       wpAny (model prog w) A (call (.builtin "list.append") [acc,x]) (fun _ s₅=>∃ m,m < n/\I m s₅) (fun _ _=>False) s₄) (fun _ _=>False) s₃
      else ∃ m,m < n/\I m s₃) (fun _ _=>False) s₂) (fun _ _=>False) s₀) (fun _ _=>False) s₁) (fun _ _=>False) s)
  (n:Nat) (h:I n s) :
  codeAny (model prog w) A (.compLoop (.ListComp elt [⟨target,iter,ifs,0⟩] scope pos) 0 it acc env) R s:=by
 refine codeAny_loop rfl I (fun n s hI=>?_) n h
 show wpAny _ A ((compTurn (.ListComp elt [⟨target,iter,ifs,0⟩] scope pos) 0 it acc env).onRaise (fun x=>do noteFrame x env;theTreesLotGoes x)) _ _ s
 refine wpAny_noted ?_
 rw [compTurn_list]
 refine wpAny_bind (wpAny_standAt (wpAny_bind (wpAny_mono (turn n s hI) (fun r s₁ h₁=>?_) fun _ _ h'=>h'.elim)))
 cases r with
 | none=>exact wpAny_pure h₁
 | some v =>
  refine wpAny_bind (wpAny_mono h₁ (fun _ s₀ h₀=>?_) fun _ _ h'=>h'.elim)
  refine wpAny_bind (wpAny_mono h₀ (fun _ s₂ h₂=>wpAny_bind (wpAny_mono h₂ (fun ok s₃ h₃=>?_) fun _ _ h'=>h'.elim)) fun _ _ h'=>h'.elim)
  cases ok with
  | false=>exact wpAny_pure ⟨rfl,h₃⟩
  | true =>
   exact wpAny_bind (wpAny_bind (wpAny_mono h₃ (fun x s₄ h₄=>wpAny_bind (wpAny_mono h₄ (fun _ s₅ h₅=>wpAny_pure (wpAny_pure ⟨rfl,h₅⟩)) fun _ _ h'=>h'.elim)) fun _ _ h'=>h'.elim))
theorem v9 {env:Env}:∀ (names:List (Str × NameKind)) (cs:List (Str × Addr)),(∀ x∈names,x.2=.free->∃ c,env.cells.lookup x.1=some c) ->
  (∀ x c,cs.lookup x=some c->env.cells.lookup x=some c) ->
  ∃ cl,(forIn names cs fun (x:Str × NameKind) (cs:List (Str × Addr))=>(if (x.2 == NameKind.free)=true then do let c <- cellOf env x.1;pure (ForInStep.yield ((x.1,c) :: cs)) else pure (ForInStep.yield cs):Sem (ForInStep (List (Str × Addr)))))=pure cl /\
   (∀ x c,cl.lookup x=some c->env.cells.lookup x=some c)/\(∀ x,(∃ c,cs.lookup x=some c)\/(x,NameKind.free)∈names->∃ c,cl.lookup x=some c)
 | [],cs,_,h=>⟨cs,rfl,h,fun x hx=>by rcases hx with hx | hx;exact hx;cases hx⟩
 | (n,k) :: r,cs,hf,h=>by
  rw [List.forIn_cons]
  by_cases hk:k=.free
  ·subst hk
   obtain ⟨c,hc⟩:=hf (n,.free) List.mem_cons_self rfl
   have e:cellOf env n=pure c:=by unfold cellOf;rw [hc]
   simp only [beq_self_eq_true,if_true,e,pure_bind]
   obtain ⟨cl,h1,h2,h3⟩:=v9 r ((n,c) :: cs) (fun x hx=>hf x (List.mem_cons_of_mem _ hx)) (fun x d q=>by
    rw [List.lookup_cons] at q
    split at q
    ·rename_i e;cases q;rw [beq_iff_eq.mp e];exact hc
    ·exact h x d q)
   refine ⟨cl,h1,h2,fun x hx=>h3 x ?_⟩
   rcases hx with ⟨d,hd⟩ | hx
   ·left
    rw [List.lookup_cons]
    split
    ·exact ⟨_,rfl⟩
    ·exact ⟨d,hd⟩
   ·rcases List.mem_cons.mp hx with e | hx
    ·left;cases e;exact ⟨c,by simp [List.lookup_cons]⟩
    ·exact .inr hx
  ·have hb:(k == NameKind.free)=false:=by simpa using hk
   simp only [hb,Bool.false_eq_true,if_false,pure_bind]
   obtain ⟨cl,h1,h2,h3⟩:=v9 r cs (fun x hx=>hf x (List.mem_cons_of_mem _ hx)) h
   refine ⟨cl,h1,h2,fun x hx=>h3 x ?_⟩
   rcases hx with hx | hx
   ·exact .inl hx
   ·rcases List.mem_cons.mp hx with e | hx
    ·cases e;exact absurd rfl hk
    ·exact .inr hx
theorem HK {env:Env} {scope:Scope} (hf:∀ x∈scope.names,x.2=.free->∃ c,env.cells.lookup x.1=some c) :
  ∃ cl,closureFor scope env=pure cl/\(∀ x c,cl.lookup x=some c->env.cells.lookup x=some c)/\(∀ x,(x,NameKind.free)∈scope.names->∃ c,cl.lookup x=some c):=by
 obtain ⟨cl,h1,h2,h3⟩:=v9 (env:=env) scope.names [] hf (fun x c h=>by cases h)
 refine ⟨cl,?_,h2,fun x hx=>h3 x (.inr hx)⟩
 unfold closureFor
 first
  | exact h1
  | (have:_:=h1;simpa using this)
end
noncomputable def fM (X:Cx) (N:List Str) (scope:Scope) (cl:List (Str × Addr)) (C:Addr) (s:Shared) (H:Hp) (fp:List Addr):Cx where
 prog:=X.prog
 w:=X.w
 K:=X.K
 mg:=X.mg
 base:=X.base
 A:=X.A
 N:=N
 s₀:=s
 H₀:=H
 env:=compEnvC scope cl C X.env
 outer:=X.stack
 stack:=X.stack
 ex:=fp
 fn:=fun _=>false
 calm:=X.calm
 pn:=[]
 xe:=fun _ _=>False
noncomputable def GH (X:Cx) (ifs:List Expr) (t:TT):Prop :=
 ∀ (pins:List (Addr × Obj)) (s:Shared) (σ:L2.St) (H:Hp) (Q:Bool->Hp->Prop),Inv X pins σ H s->t σ H Q ->
  wpAny (model X.prog X.w) X.A (forIn ifs true fun c r=>if r=true then do let ok <- isTrue c X.env (eval c X.env);pure (ForInStep.yield ok) else pure (ForInStep.yield r)) (TP X pins σ Q) X.xe s
noncomputable def QP:TT:=fun _ H Q=>Q true H
theorem NT {X:Cx}:GH X [] QP:=fun pins s σ H Q I h=>wpAny_tests_nil ⟨H,I,h⟩
theorem Oz {X:Cx} {c:Expr} {t:TT} (h:PT X c t):GH X [c] t:=fun pins s σ H Q I q=>wpAny_tests_one (h pins s σ H Q I q)
noncomputable def GK (k:Nat) (g:TG):Prop:=∀ x σ H Q,g x σ H Q->g x σ H (fun σ2 H2=>(∀ j,k<=j->σ2[j]?=σ[j]?)/\Q σ2 H2)
noncomputable def JA (k:Nat) (g:qJ):Prop:=∀ xs σ H Q,g xs σ H Q->g xs σ H (fun σ2 H2=>(∀ j,k<=j->σ2[j]?=σ[j]?)/\Q σ2 H2)
theorem PQ {k i:Nat} (h:i < k):GK k (uZ i):=fun x σ H Q q=>⟨fun j hj=>by rw [List.getElem?_set,if_neg (by omega)],q⟩
theorem Qt {k:Nat}:JA k Ex:=fun xs σ H Q q=>⟨q.1,fun j _=>rfl,q.2⟩
theorem OL {k:Nat} {g:TG} {r:qJ} (h1:GK k g) (h2:JA k r) (m2:∀ xs σ H Q Q',(∀ σ2 H2,Q σ2 H2->Q' σ2 H2)->r xs σ H Q->r xs σ H Q') (m1:∀ x σ H Q Q',(∀ σ2 H2,Q σ2 H2->Q' σ2 H2)->g x σ H Q->g x σ H Q'):JA k (Bg g r):=fun xs σ H Q q=>by
 obtain ⟨v,r',rfl,q⟩:=q
 refine ⟨v,r',rfl,m1 _ _ _ _ _ (fun σ2 H2 z=>?_) (h1 _ _ _ _ q)⟩
 exact m2 _ _ _ _ _ (fun σ3 H3 y=>⟨fun j hj=>(y.1 j hj).trans (z.1 j hj),y.2⟩) (h2 _ _ _ _ z.2)
theorem RU {i:Nat}:∀ x σ H (Q Q':L2.St->Hp->Prop),(∀ σ2 H2,Q σ2 H2->Q' σ2 H2)->uZ i x σ H Q->uZ i x σ H Q':=fun x σ H Q Q' h q=>h _ _ q
theorem Se:∀ xs σ H (Q Q':L2.St->Hp->Prop),(∀ σ2 H2,Q σ2 H2->Q' σ2 H2)->Ex xs σ H Q->Ex xs σ H Q':=fun x σ H Q Q' h q=>⟨q.1,h _ _ q.2⟩
theorem Ro {g:TG} {r:qJ} (m1:∀ x σ H Q Q',(∀ σ2 H2,Q σ2 H2->Q' σ2 H2)->g x σ H Q->g x σ H Q') (m2:∀ xs σ H Q Q',(∀ σ2 H2,Q σ2 H2->Q' σ2 H2)->r xs σ H Q->r xs σ H Q') :
  ∀ xs σ H (Q Q':L2.St->Hp->Prop),(∀ σ2 H2,Q σ2 H2->Q' σ2 H2)->Bg g r xs σ H Q->Bg g r xs σ H Q':=fun xs σ H Q Q' h q=>by
 obtain ⟨v,r',rfl,q⟩:=q
 exact ⟨v,r',rfl,m1 _ _ _ _ _ (fun σ2 H2 z=>m2 _ _ _ _ _ h z) q⟩
theorem RZ {K:PySem.W.Frag} {k n:Nat} {r:qJ} (h:JA k r):GK k (DF K n r):=fun x σ H Q q=>by
 obtain ⟨a,xs,rfl,h1,h2,q⟩:=q
 exact ⟨a,xs,rfl,h1,h2,h _ _ _ _ q⟩
theorem So {K:PySem.W.Frag} {n:Nat} {r:qJ} (m2:∀ xs σ H Q Q',(∀ σ2 H2,Q σ2 H2->Q' σ2 H2)->r xs σ H Q->r xs σ H Q') :
  ∀ x σ H (Q Q':L2.St->Hp->Prop),(∀ σ2 H2,Q σ2 H2->Q' σ2 H2)->DF K n r x σ H Q->DF K n r x σ H Q':=fun x σ H Q Q' h q=>by
 obtain ⟨a,xs,rfl,h1,h2,q⟩:=q
 exact ⟨a,xs,rfl,h1,h2,m2 _ _ _ _ _ h q⟩
theorem Cb {X:Cx} {tg elt iter:Expr} {ifs:List Expr} {scope:Scope} {pos:Pos} {N:List Str} {k:Nat} {ix:List Nat} {wi:TI} {g:TG} {tc:TT} {te:TE}
  (hc:X.calm=true) (hi:PI X tg iter wi) (gk:GK k g)
  (hk:scope.kind=.function) (hcell:∀ y∈scope.names,y.2≠.cell) (hnames:∀ y∈scope.names,y.2=.local->scope.names.lookup y.1=some .local)
  (hfree:∀ y∈scope.names,y.2=.free->X.env.kindOf y.1=some .cell\/X.env.kindOf y.1=some .free)
  (hone:∀ y∈scope.names,y.2=.free->scope.names.lookup y.1=some .free)
  (hN:∀ (j:Nat) x,N[k + j]?=some x->∃ i,ix[j]?=some i/\X.N[i]?=some x)
  (hcap:∀ (j:Nat) x,N[k + j]?=some x->scope.names.lookup x=some .free)
  (hlen:N.length=k + ix.length)
  (hg:∀ cl C s H fp,PG (fM X N scope cl C s H fp) tg g)
  (hif:∀ cl C s H fp,GH (fM X N scope cl C s H fp) ifs tc)
  (he:∀ cl C s H fp,PE (fM X N scope cl C s H fp) elt te)
  (hs:∀ x,foldedSetIterable iter X.env x=pure x) {pins:List (Addr × Obj)} {s:Shared} {σ:L2.St} {H:Hp} {Q:VK} (I:L2.Inv X pins σ H s) (h:C8 k ix wi g tc te σ H Q) {pos':Pos} {use:Option (Value->Sem Unit)} {QQ:Value->Shared->Prop}
  (end_:∀ (D C:Addr) (H3:Hp) (s4:Shared),L2.Inv X pins σ H3 s4->(∃ m,s4.heap.Ns C m)->H3 C=none->C≠X.env.locals->X.s₀.heap.objs.size<=C->(∀ x c,X.env.cells.lookup x=some c->c≠C)->(∀ p∈X.pn++pins,p.1≠C) ->
   (∀ h':Heap,Heap.SameBut C s4.heap h'->L2.Inv X pins σ H3 { s4 with heap:=h' })->Q (.ref D) H3->compPost (model X.prog X.w) X.A X.xe use QQ (.ref D) C (.ok .next) s4) :
  wpAny (model X.prog X.w) X.A (comprehension (.ListComp elt [⟨tg,iter,ifs,0⟩] scope pos) scope X.env pos' (newList []) false (eval iter X.env) use) QQ X.xe s:=by
 obtain ⟨cl,hclos,hcl,hcl2⟩:=HK (env:=X.env) (scope:=scope) (fun x hx e=>I.ok.has x.1 (hfree x hx e))
 refine wpAny_comprehension_free (use:=use) rfl hs hclos hk hnames (bR (hi pins s σ H _ I h) fun v s1 h1=>bR h1 fun itv s2 h2=>?_)
 obtain ⟨it,fp,tn,J,H2,rfl,I2,T,eD,f2,h2⟩:=h2
 refine wpAny_newObj_type (wpAny_newFunctionEnv hcell (by intro y hy;simp at hy) (fun h₁ hns₁ hsb₁=>?_) hk)
 dsimp only at hns₁ hsb₁ ⊢
 generalize hP:s2.heap.push { cls:=.type "list",dict:=none,data:=.seq ([]:List Value).toArray }=P2 at hns₁ hsb₁ ⊢
 have hCs:P2.objs.size=s2.heap.objs.size + 1:=by rw [<- hP,Heap.size_push]
 have below:∀ b,b < s2.heap.objs.size->b≠P2.objs.size:=fun b hb=>by rw [hCs];omega
 have old:∀ b o,s2.heap.get? b=some o->h₁.get? b=some o:=fun b o e=>hsb₁.extBut b o (below b (Heap.lt_size e)) (Heap.get?_push_of_some _ (hP ▸ Heap.get?_push_of_some _ e))
 have hacc:h₁.get? s2.heap.objs.size=some { cls:=.type "list",dict:=none,data:=.seq ([]:List Value).toArray }:=hsb₁.extBut _ _ (show s2.heap.objs.size≠P2.objs.size by rw [hCs];exact Nat.ne_of_lt (Nat.lt_succ_self _)) (Heap.get?_push_of_some _ (hP ▸ Heap.get?_push_size _ rfl))
 obtain ⟨W,⟨m0,w0⟩,turn⟩:=h2 s2.heap.objs.size (I2.hok.fresh (Nat.le_refl _))
 have fpl:∀ b∈fp,b < s2.heap.objs.size:=fun b hb=>let ⟨o,e,_⟩:=T.obj _ _ eD b hb;Heap.lt_size e
 have σl:(eQ k ix σ).length=N.length:=by rw [hlen];simp [eQ]
 have i2:=I2.ok
 have ok':(fM X N scope cl P2.objs.size s2 H2 fp).Ok:=by
  refine ⟨i2.mod,hk,i2.glob,i2.blt,(by show s2.heap.objs.size<=P2.objs.size;rw [hCs];exact Nat.le_succ _),fun x y c e1 e2=>i2.inj x y c (hcl x c e1) (hcl y c e2),fun x hx=>?_,(fun x c e=>by cases e),i2.hd,i2.frames,.inl rfl,fun b hb=>?_,fun b o e=>I2.bs b o e,Nat.le_trans i2.bsz I2.sz,fun b o e hb=>?_,fun b hb hb2=>?_,I2.stack,I2.stkFree⟩
  ·
   have hx':(relabel scope X.env).names.lookup x=some .cell\/(relabel scope X.env).names.lookup x=some .free:=hx
   have key:∀ (names:List (Str × NameKind)),(∀ y∈names,y.2≠.cell)->((names.map fun (n,k)=>if (k == NameKind.free && X.env.scope.kind == .function && X.env.kindOf n == some .cell) then (n,NameKind.cell) else (n,k)).lookup x=some .cell \/
     (names.map fun (n,k)=>if (k == NameKind.free && X.env.scope.kind == .function && X.env.kindOf n == some .cell) then (n,NameKind.cell) else (n,k)).lookup x=some .free)->(x,NameKind.free)∈names:=by
    intro names
    induction names with
    | nil=>intro _ h;rcases h with h | h <;> cases h
    | cons y r ih =>
     obtain ⟨n,kd⟩:=y
     intro hnc h
     by_cases hxn:x=n
     ·subst hxn
      have hkc:kd≠.cell:=hnc (x,kd) List.mem_cons_self
      by_cases hkf:kd=.free
      ·subst hkf;exact List.mem_cons_self
      ·exfalso
       have hb:(kd == NameKind.free)=false:=by simpa using hkf
       simp only [List.map_cons,hb,Bool.false_and,Bool.false_eq_true,if_false,List.lookup_cons,beq_self_eq_true] at h
       rcases h with h | h
       ·exact hkc (Option.some.inj h)
       ·exact hkf (Option.some.inj h)
     ·have hb:(x == n)=false:=by simpa using hxn
      refine List.mem_cons_of_mem _ (ih (fun y hy=>hnc y (List.mem_cons_of_mem _ hy)) ?_)
      have e1:∀ z:NameKind,List.lookup x (((n,z)) :: (r.map fun (n,k)=>if (k == NameKind.free && X.env.scope.kind == .function && X.env.kindOf n == some .cell) then (n,NameKind.cell) else (n,k)))=List.lookup x (r.map fun (n,k)=>if (k == NameKind.free && X.env.scope.kind == .function && X.env.kindOf n == some .cell) then (n,NameKind.cell) else (n,k)):=fun z=>by rw [List.lookup_cons,hb]
      rw [List.map_cons] at h
      dsimp only at h
      split at h
      ·rw [e1] at h;exact h
      ·rw [e1] at h;exact h
   exact hcl2 x (key scope.names hcell hx')
  ·exact ⟨below b (fpl b hb),fun x c e=>(f2 b hb).2.2.2.2.1 x c (hcl x c e)⟩
  ·rcases (f2 b hb).2.2.2.1 with z | z
   ·exact i2.noex b o e z
   ·exact absurd (Nat.lt_of_lt_of_le (Heap.lt_size e) (Nat.le_trans i2.bsz z)) (Nat.lt_irrefl _)
  ·rcases List.mem_cons.mp (I2.stkSub b hb2) with z | z
   ·exact (f2 b hb).2.1 z
   ·exact (f2 b hb).2.2.1 z
 have stat:∀ {H':Hp},(∀ b∈fp,H' b=none)->∀ b∈fp,t9 (fM X N scope cl P2.objs.size s2 H2 fp) [] H' b:=fun hn b hb =>
  ⟨hn b hb,below b (fpl b hb),fun z=>ok'.exfs b hb z,.inl hb,fun x c e=>(f2 b hb).2.2.2.2.1 x c (hcl x c e),(fun p hp=>by cases hp)⟩
 have hD:H2 s2.heap.objs.size=none:=I2.hok.fresh (Nat.le_refl _)
 have relf:∀ x,scope.names.lookup x=some .free->(X.env.kindOf x=some .cell\/X.env.kindOf x=some .free)->((relabel scope X.env).names.lookup x=some .cell\/(relabel scope X.env).names.lookup x=some .free):=by
  intro x hx hkx
  have key:∀ (names:List (Str × NameKind)),names.lookup x=some .free->((names.map fun (n,k)=>if (k == NameKind.free && X.env.scope.kind == .function && X.env.kindOf n == some .cell) then (n,NameKind.cell) else (n,k)).lookup x=some .cell \/
    (names.map fun (n,k)=>if (k == NameKind.free && X.env.scope.kind == .function && X.env.kindOf n == some .cell) then (n,NameKind.cell) else (n,k)).lookup x=some .free):=by
   intro names
   induction names with
   | nil=>intro h;cases h
   | cons y r ih =>
    obtain ⟨n,kd⟩:=y
    intro h
    rw [List.lookup_cons] at h
    by_cases hxn:x=n
    ·subst hxn
     simp only [beq_self_eq_true] at h
     cases h
     rw [List.map_cons]
     dsimp only
     split
     ·left;simp [List.lookup_cons]
     ·right;simp [List.lookup_cons]
    ·have hb:(x == n)=false:=by simpa using hxn
     rw [hb] at h
     have:=ih h
     rw [List.map_cons]
     dsimp only
     split
     ·rw [List.lookup_cons,hb];exact this
     ·rw [List.lookup_cons,hb];exact this
  exact key scope.names hx
 have Istart:∀ tk,Inv (fM X N scope cl P2.objs.size s2 H2 fp) [] (eQ k ix σ) (upd H2 s2.heap.objs.size (.lst [])) { s2 with heap:=h₁,toks:=tk }:=fun tk=>by
  refine ⟨ok',rfl,I2.bare,Un.laid old (Nat.le_refl _) hD,⟨_,hns₁,fun i x v e1 e2 e3=>?_⟩,fun x c e=>?_,?_,fun x c e=>?_,(fun p hp=>by cases hp),I2.hok.laid old (Nat.le_refl _) ⟨Nat.zero_le _,[],_,.nil,hacc⟩,σl⟩
  ·by_cases hik:i < k
   ·exfalso
    unfold eQ at e2
    rw [List.getElem?_append_left (by simpa using hik),List.getElem?_replicate] at e2
    split at e2 <;> cases e2
   ·have ej:i=k + (i - k):=by omega
    have e1':N[k + (i - k)]?=some x:=by rw [<- ej];exact e1
    obtain ⟨i0,hi0,hXN⟩:=hN (i - k) x e1'
    have hfx:=hcap (i - k) x e1'
    have hmem:(x,NameKind.free)∈scope.names:=PySem.mem_of_lookup hfx
    have hkx:=hfree _ hmem rfl
    have e4:σ[i0]?=some (some v):=by
     unfold eQ at e2
     rw [List.getElem?_append_right (by simpa using Nat.le_of_not_lt hik),List.getElem?_map] at e2
     simp only [List.length_replicate,hi0,Option.map_some,Option.some.injEq] at e2
     cases z:σ[i0]? with
     | none=>rw [z] at e2;cases e2
     | some y=>rw [z] at e2;simp only [Option.getD_some] at e2;rw [e2]
    obtain ⟨m2,hn2,hl2⟩:=I2.loc
    obtain ⟨u,ru,lk⟩:=hl2 i0 x v hXN e4 (by rcases hkx with z | z;exact .inr (.inl z);exact .inr (.inr z))
    rcases lk with ⟨z,_⟩ | ⟨_,c,hc1,hc2⟩
    ·exfalso
     have z':X.env.kindOf x=some .local:=z
     rcases hkx with y | y <;> (rw [z'] at y;cases y)
    ·obtain ⟨c',hc'⟩:=hcl2 x hmem
     have e5:=hcl x c' hc'
     rw [hc1] at e5;cases e5
     obtain ⟨o,ho,hd⟩:=hc2
     exact ⟨u,ru,.inr ⟨relf x hfx hkx,c,hc',o,old _ _ ho,hd⟩⟩
  ·obtain ⟨v,o,ho,hd⟩:=I2.cell x c (hcl x c e)
   exact ⟨v,o,old _ _ ho,hd⟩
  ·show upd H2 s2.heap.objs.size (.lst []) P2.objs.size=none
   rw [cF (show P2.objs.size≠s2.heap.objs.size by rw [hCs];exact Nat.succ_ne_self _)]
   exact I2.hok.fresh (show s2.heap.objs.size<=P2.objs.size by rw [hCs];exact Nat.le_succ _)
  ·have e':=hcl x c e
   obtain ⟨v,o,ho,hd⟩:=I2.cell x c e'
   rw [cF (Nat.ne_of_lt (Heap.lt_size ho))]
   exact I2.freeC x c e'
 have st1:tn 0 h₁:=T.keep 0 _ _ eD fun b hb o e=>old b o e
 have fr1:∀ b∈fp,upd H2 s2.heap.objs.size (.lst []) b=none:=fun b hb=>by rw [cF (Nat.ne_of_lt (fpl b hb))];exact (f2 b hb).1
 have fin:∀ (H3:Hp) (s4:Shared),Inv (fM X N scope cl P2.objs.size s2 H2 fp) [] (eQ k ix σ) H3 s4->∀ h':Heap,Heap.SameBut P2.objs.size s4.heap h'->Inv X pins σ H3 { s4 with heap:=h' }:=fun H3 s4 I4 h' sb=>by
  have kp:∀ b o,b < s2.heap.objs.size->s4.heap.get? b=some o->h'.get? b=some o:=fun b o hb e=>sb.extBut b o (below b hb) e
  have u:Un (wC X.stack) fp H2 H3 s2.heap s4.heap:=I4.base
  refine I2.call' (ch:=fp) (H':=H3) I4.os ⟨fun b o q n hb hx=>kp b o (Heap.lt_size q) (u.keep b o q n hb hx),fun b o q n hb hx=>?_,u.free,fun b o q hx=>?_,u.tups,u.frzs,u.tbls⟩ (fun a o e=>?_) I4.bare fun b hb=>⟨(f2 b hb).2.2.2.1,(f2 b hb).2.1,(f2 b hb).2.2.2.2.1,(f2 b hb).2.2.2.2.2⟩
  ·obtain ⟨sl,e⟩:=u.slot b o q n hb hx
   exact ⟨sl,kp b _ (Heap.lt_size q) e⟩
  ·obtain ⟨o',e⟩:=u.there b o q hx
   exact ⟨o',kp b _ (Heap.lt_size q) e⟩
  ·have nC:H3 P2.objs.size=none:=I4.free
   refine (I4.hok a o e).stay (fun b z hb q=>sb.extBut b z ?_ q) (fun _ q=>q) fun _ _ q=>q
   rcases hb with rfl | hb
   ·exact dM e nC
   ·exact dM hb nC
 have loop:∀ tk,codeAny (model X.prog X.w) X.A (.compLoop (.ListComp elt [⟨tg,iter,ifs,0⟩] scope pos) 0 (.ref it) (.ref s2.heap.objs.size) (compEnvC scope cl P2.objs.size X.env))
   (compPost (model X.prog X.w) X.A X.xe use QQ (.ref s2.heap.objs.size) P2.objs.size) { s2 with heap:=h₁,toks:=tk }:=fun tk=>by
  refine Fs (fun n s'=>∃ i H',Inv (fM X N scope cl P2.objs.size s2 H2 fp) [] (eQ k ix σ) H' s'/\tn i s'.heap/\(∀ b∈fp,H' b=none)/\W i n H') ?_ m0 ⟨0,_,Istart tk,st1,fr1,w0⟩
  rintro n s3 ⟨i,H3,I3,st3,fr3,w3⟩
  rcases turn i n H3 w3 with ⟨stop,q⟩ | ⟨go,step⟩
  ·refine bR (T.done (fM X N scope cl P2.objs.size s2 H2 fp) rfl rfl rfl hc i [] s3 _ H3 (fun _ _=>False) I3 (stat fr3) st3 stop) fun r s4 ⟨hr,I4⟩=>?_
   subst hr
   obtain ⟨m,hn,_⟩:=I4.loc
   refine end_ s2.heap.objs.size P2.objs.size H3 s4 (fin H3 s4 I4 s4.heap (Heap.SameBut.refl ..)) ⟨m,hn⟩ I4.free (Ne.symm (below _ I2.lt)) (Nat.le_trans I2.sz (show s2.heap.objs.size<=P2.objs.size by rw [hCs];exact Nat.le_succ _)) (fun x c e=>?_) (fun p hp=>below _ (Heap.lt_size (I2.pin p hp).1)) (fin H3 s4 I4) q
   obtain ⟨v,o,ho,_⟩:=I2.cell x c e
   exact below _ (Heap.lt_size ho)
  ·refine bR (T.item (fM X N scope cl P2.objs.size s2 H2 fp) rfl rfl rfl hc i [] s3 _ H3 (fun _ _=>False) I3 (stat fr3) st3 go) fun r s4 ⟨u,hr,h4⟩=>?_
   subst hr
   refine bR h4 fun _ s5 ⟨x,H5,I5,r5,y5,st5,fr5⟩=>?_
   have I5':=I5.pinned (stat fr5) (T.obj _ _ st5)
   refine bR (hg cl P2.objs.size s2 H2 fp _ s5 _ H5 x u _ I5' r5 (gk _ _ _ _ (step x H5 y5))) fun _ s6 ⟨σ6,H6,I6,ag,q6⟩=>?_
   have again:∀ {s7:Shared} {H7:Hp} {m':Nat},Inv (fM X N scope cl P2.objs.size s2 H2 fp) ([]++xX fp s5.heap) σ6 H7 s7->m' < n->W (i + 1) m' H7->∃ m,m < n/\∃ i H',Inv (fM X N scope cl P2.objs.size s2 H2 fp) [] (eQ k ix σ) H' s7/\tn i s7.heap/\(∀ b∈fp,H' b=none)/\W i m H':=fun {s7 H7 m'} I7 hm w7=>by
    refine ⟨m',hm,i + 1,H7,(I7.unpinned).weak (by rw [σl];exact (I7.len).symm) (fun j v e=>?_),T.keep _ _ _ st5 fun b hb o e=>(I7.pin (b,o) (List.mem_append_right _ (List.mem_append_right _ (pM hb e)))).1,fun b hb=>?_,w7⟩
    ·by_cases hj:j < k
     ·exfalso
      unfold eQ at e
      rw [List.getElem?_append_left (by simpa using hj),List.getElem?_replicate] at e
      split at e <;> cases e
     ·rw [ag j (by omega)];exact e
    ·obtain ⟨o,e,d⟩:=T.obj _ _ st5 b hb
     exact (I7.pin (b,o) (List.mem_append_right _ (List.mem_append_right _ (pM hb e)))).2.1
   refine bR (hif cl P2.objs.size s2 H2 fp _ s6 σ6 H6 _ I6 q6) fun ok s7 ⟨H7,I7,q7⟩=>?_
   cases ok with
   | false =>
    obtain ⟨m',hm,w7⟩:=q7
    exact again I7 hm w7
   | true =>
    refine bR (he cl P2.objs.size s2 H2 fp _ s7 σ6 H7 _ I7 q7) fun y s8 ⟨yv,H8,I8,r8,ys,hD8,hz8,m',hm,w8⟩=>?_
    refine bR (Co _ s8 σ6 H8 (.ref s2.heap.objs.size) [yv] (.ref s2.heap.objs.size) [y] (fun v H9=>H9=upd H8 s2.heap.objs.size (.lst (ys++[yv]))) I8 rfl (.cons r8 .nil) ⟨_,ys,yv,rfl,rfl,hD8,hz8,rfl⟩) fun _ s9 ⟨_,H9,I9,_,e9⟩=>?_
    subst e9
    exact again I9 hm w8
 exact codeAny_compStart_list (loop _) (T.self _ 0 _ _ _ st1 (loop _))
theorem Pj {X:Cx} {tg elt iter:Expr} {ifs:List Expr} {scope:Scope} {pos:Pos} {N:List Str} {k:Nat} {ix:List Nat} {wi:TI} {g:TG} {tc:TT} {te:TE}
  (hc:X.calm=true) (hi:PI X tg iter wi) (gk:GK k g)
  (hk:scope.kind=.function) (hcell:∀ y∈scope.names,y.2≠.cell) (hnames:∀ y∈scope.names,y.2=.local->scope.names.lookup y.1=some .local)
  (hfree:∀ y∈scope.names,y.2=.free->X.env.kindOf y.1=some .cell\/X.env.kindOf y.1=some .free)
  (hone:∀ y∈scope.names,y.2=.free->scope.names.lookup y.1=some .free)
  (hN:∀ (j:Nat) x,N[k + j]?=some x->∃ i,ix[j]?=some i/\X.N[i]?=some x)
  (hcap:∀ (j:Nat) x,N[k + j]?=some x->scope.names.lookup x=some .free)
  (hlen:N.length=k + ix.length)
  (hg:∀ cl C s H fp,PG (fM X N scope cl C s H fp) tg g)
  (hif:∀ cl C s H fp,GH (fM X N scope cl C s H fp) ifs tc)
  (he:∀ cl C s H fp,PE (fM X N scope cl C s H fp) elt te)
  (hs:∀ x,foldedSetIterable iter X.env x=pure x:=by intro _;rfl) :
  PE X (.ListComp elt [⟨tg,iter,ifs,0⟩] scope pos) (C8 k ix wi g tc te):=by
 intro pins s σ H Q I h
 rw [eval_ListComp]
 refine Cb (use:=none) hc hi gk hk hcell hnames hfree hone hN hcap hlen hg hif he hs I h fun D C H3 s4 I4 ⟨m,hn⟩ _ _ _ _ _ fin q=>?_
 exact ⟨m,hn,fun h' sb=>⟨.ref D,H3,fin h' sb,rfl,q⟩⟩
theorem Oa {X:Cx} {tg elt iter:Expr} {ifs:List Expr} {scope:Scope} {pos spos py:Pos} {N:List Str} {k:Nat} {ix:List Nat} {wi:TI} {g:TG} {tc:TT} {te:TE} {i:Nat} {y:Str}
  (hc:X.calm=true) (hi:PI X tg iter wi) (gk:GK k g)
  (hk:scope.kind=.function) (hcell:∀ y∈scope.names,y.2≠.cell) (hnames:∀ y∈scope.names,y.2=.local->scope.names.lookup y.1=some .local)
  (hfree:∀ y∈scope.names,y.2=.free->X.env.kindOf y.1=some .cell\/X.env.kindOf y.1=some .free)
  (hone:∀ y∈scope.names,y.2=.free->scope.names.lookup y.1=some .free)
  (hN:∀ (j:Nat) x,N[k + j]?=some x->∃ i,ix[j]?=some i/\X.N[i]?=some x)
  (hcap:∀ (j:Nat) x,N[k + j]?=some x->scope.names.lookup x=some .free)
  (hlen:N.length=k + ix.length)
  (hg:∀ cl C s H fp,PG (fM X N scope cl C s H fp) tg g)
  (hif:∀ cl C s H fp,GH (fM X N scope cl C s H fp) ifs tc)
  (he:∀ cl C s H fp,PE (fM X N scope cl C s H fp) elt te)
  (hs:∀ x,foldedSetIterable iter X.env x=pure x) (hsw:swapsWith (.ListComp elt [⟨tg,iter,ifs,0⟩] scope pos) (some (.Name y py)) spos.line X.env=pure true)
  (hNd:X.N.Nodup) (hiy:X.N[i]?=some y) (hy:Loc X.env.scope y) (hf:X.fn y=true\/X.env.scope.names.lookup y=some .local) :
  PS X (.Assign [.Name y py] (.ListComp elt [⟨tg,iter,ifs,0⟩] scope pos) spos) (HH (C8 k ix wi g tc te) (uZ i)):=by
 intro pins s σ H D I h
 rw [exec_Assign_Name_used _ _ _ _ hsw]
 refine wpAny_bind (wpAny_standAt (wpAny_bind ?_))
 show wpAny _ X.A (do let _ <- comprehension (.ListComp elt [⟨tg,iter,ifs,0⟩] scope pos) scope X.env _ (newList []) false (eval iter X.env) (some (assign (.Name y py) X.env))) _ _ s
 refine wpAny_bind (wpAny_mono (Cb (use:=some (assign (.Name y py) X.env)) (QQ:=fun _ s'=>SP X pins D .next s') hc hi gk hk hcell hnames hfree hone hN hcap hlen hg hif he hs I h fun A C H3 s4 I4 hn nC nL sC cC pC fin q=>?_) (fun _ s' hq=>wpAny_pure (wpAny_pure hq)) fun _ _ e=>e)
 show wpAny _ X.A (assign (.Name y py) X.env (.ref A)) _ _ _
 refine wpAny_assign_Name (Cr (i:=i) (v:=.ref A) I4 hNd hiy hy rfl (fun s5 I5 ⟨a,sb,ha⟩=>?_) hf)
 obtain ⟨m,hn⟩:=hn
 have aC:C≠a:=by
  rcases ha with z | z
  ·rw [z];exact nL
  ·exact fun e=>cC y a z e.symm
 refine ⟨m,hn.at' fun o e=>sb.extBut C o aC e,fun h' sb'=>?_⟩
 exact ⟨_,H3,I5.turned (t':=s5.toks) (fun b o hb e=>sb'.extBut b o hb e) nC nL (.inr sC) cC pC,q⟩
section
variable {X:Cx}
theorem NZ:fE X (binaryOp .Add) (IG X.K):=by
 intro pins s σ H x y v u Q I rx ry h
 obtain ⟨l,b,xs,zs,rfl,rfl,hH,hB,hz,q⟩:=h
 cases rx
 cases ry
 obtain ⟨its,r,p,hl⟩:=I.list hH
 obtain ⟨its2,r2,p2,hl2⟩:=I.list hB
 obtain ⟨⟨cls,dd,data,sl⟩,n,ho,hc,_,hd⟩:=p
 obtain ⟨⟨cls2,dd2,data2,sl2⟩,n2,ho2,hc2,_,hd2⟩:=p2
 simp only at hc hd hc2 hd2
 subst hc hd hc2 hd2
 have q1:=r.length
 have q2:=r2.length
 have e:its.toArray++its2.toArray=(its++its2).toArray:=by simp
 refine concat_meets ⟨_,ho,rfl⟩ ⟨_,ho2,rfl⟩ noFill_list_add seq_list_add PySem.F.slot_list_add PySem.F.entry_list_add (PySem.F.args_list_add_2 _ _) (list_addW l b its.toArray its2.toArray n n2 dd dd2 sl sl2 (by rw [List.size_toArray,List.size_toArray];omega)) ⟨ho,ho2,?_⟩
 rw [e]
 exact ⟨.ref _,_,I.lnew (t':=s.toks) (r.append r2) (by rw [List.length_append];omega),rfl,q _ I.fresh⟩
theorem LK:fE X (binaryOp .Add) (Dk X.K):=by
 intro pins s σ H x y v u Q I rx ry h
 obtain ⟨a,b,xs,ys,rfl,rfl,ha,hb,hz,q0,q1,q2⟩:=h
 by_cases hx:xs=[]
 ·cases rx
  cases ry
  obtain ⟨its,r1,p1,_⟩:=I.tuple ha
  obtain ⟨its2,r2,p2,_⟩:=I.tuple hb
  obtain ⟨⟨cls,dd,data,sl⟩,ho,hc,n,hd⟩:=p1
  obtain ⟨⟨cls2,dd2,data2,sl2⟩,ho2,hc2,n2,hd2⟩:=p2
  simp only at hc hd hc2 hd2
  subst hc hd hc2 hd2
  have e:its=[]:=r1.nil_iff.mpr hx
  exact concat_meets ⟨_,ho,rfl⟩ ⟨_,ho2,rfl⟩ noFill_tuple_add seq_tuple_add PySem.F.slot_tuple_add PySem.F.entry_tuple_add (PySem.F.args_tuple_add_2 _ _) (tuple_addW0 a b its.toArray its2.toArray n n2 dd dd2 sl sl2 (by rw [e];rfl)) ⟨ho,ho2,.ref b,H,I,rfl,q0 hx⟩
 ·exact OC pins s σ H _ _ v u Q I rx ry ⟨a,b,xs,ys,rfl,rfl,ha,hb,hx,hz,q1 hx,q2 hx⟩
theorem Rj:y0 X (fun x lo hi H Q=>∃ z:Str,x=.str z/\z.length<=sizeLine/\Q (.str (Txt.slice z lo hi)) H):=by
 intro pins s σ H x v vl vu lo hi sl Q I rx hs pl pu h
 obtain ⟨z,rfl,hz,q⟩:=h
 obtain ⟨t,rfl⟩:=rx
 refine ⟨"str",_,F.slot_str_getitem.lookup,typeIs_str _ _ _,?_⟩
 have fin:∀ t' k,EP X pins σ Q (.str (Txt.slice z lo hi) t') { s with toks:=k }:=fun t' k=>⟨.str (Txt.slice z lo hi),H,I.tok k,⟨t',rfl⟩,q⟩
 cases pl with
 | none=>cases pu with
  | none=>exact wpAny_getItem_str_slice (l:=none) (u:=none) (st:=none) hs rfl (post_val_or_str ⟨Nat.le_trans (Txt.slice_le z _ _) hz,fun t' k=>fin t' k⟩)
  | int j uj=>exact wpAny_getItem_str_slice (l:=none) (u:=some (j,uj)) (st:=none) hs rfl (post_val_or_str ⟨Nat.le_trans (Txt.slice_le z _ _) hz,fun t' k=>fin t' k⟩)
 | int i ui=>cases pu with
  | none=>exact wpAny_getItem_str_slice (l:=some (i,ui)) (u:=none) (st:=none) hs rfl (post_val_or_str ⟨Nat.le_trans (Txt.slice_le z _ _) hz,fun t' k=>fin t' k⟩)
  | int j uj=>exact wpAny_getItem_str_slice (l:=some (i,ui)) (u:=some (j,uj)) (st:=none) hs rfl (post_val_or_str ⟨Nat.le_trans (Txt.slice_le z _ _) hz,fun t' k=>fin t' k⟩)
theorem P4:y0 X (Qv X.K):=O7.or (Qb.or Rj)
theorem JL (hc:X.calm=true):h8 X (.builtin "all") (fun xs H Q=>∃ (p:Addr) (bs:List Bool),xs=[.ref p]/\eT X.K H p (bs.map V.bl)/\Q (.bl (bs.all fun b=>b)) H):=by
 intro pins s σ H xs us Q I r h
 obtain ⟨a,bs,rfl,ha,q⟩:=h
 obtain ⟨u,rfl,ru⟩:=vals1 r
 cases ru
 obtain ⟨its,rv,p,hz⟩:=I.list ha
 have hl:=rv.length
 have hne:a≠s.heap.objs.size:=by
  obtain ⟨o,n,e,_⟩:=p
  exact Nat.ne_of_lt (Heap.lt_size e)
 refine call_all_walk (wpAny_pyIter_list p.isList ?_)
 refine ⟨s.heap.objs.size,_,_,_,_,_,fun i=>(bs[i]?).getD false,rfl,Walks.list (show X.A.in1.handled=none from I.ok.hd hc) s.heap.objs.size a hne its.toArray,⟨⟨_,Heap.get?_push_size _ rfl,rfl,rfl⟩,?_⟩,?_,fun h' tk k=>?_⟩
 ·obtain ⟨o,n,e,c,d,z⟩:=p
  exact ⟨o,Heap.get?_push_of_some _ e,c,n,z⟩
 ·intro i v s' Q' E' hP hQ
  have hv:its[i]?=some v:=by simpa using hP
  have hi:i < bs.length:=by
   have:=(List.getElem?_eq_some_iff.mp hv).1
   rw [<- hl] at this;simpa using this
  obtain ⟨u,hu,ru⟩:=rv.get (i:=i) (x:=.bl bs[i]) (by simp [hi])
  rw [hv] at hu;cases hu
  cases ru
  refine wpAny_truthy_bool ?_
  have:(bs[i]?).getD false=bs[i]:=by simp [hi]
  rw [<- this];exact hQ
 ·have e:(List.range its.toArray.size).all (fun i=>(bs[i]?).getD false)=bs.all fun b=>b:=by
   have:its.toArray.size=bs.length:=by rw [List.size_toArray,<- hl,List.length_map]
   rw [this]
   clear this hl rv p hz k
   rw [Bool.eq_iff_iff]
   simp only [List.all_eq_true,List.mem_range]
   constructor
   ·intro h b hb
    obtain ⟨i,hi,rfl⟩:=List.mem_iff_getElem.mp hb
    have:=h i hi
    simpa [hi] using this
   ·intro h i hi
    have:=h bs[i] (List.getElem_mem hi)
    simpa [hi] using this
  rw [e]
  exact ⟨.bl _,H,I.kept (t':=tk) (fun b o e=>k b o (fun z=>Nat.lt_irrefl _ (Nat.lt_of_lt_of_le (Heap.lt_size e) (Nat.le_of_eq (show s.heap.objs.size=b from (List.mem_singleton.mp z).symm)))) (Heap.get?_push_of_some _ e)),rfl,q⟩
end
end U2
namespace U2
open PySem PySem.Spec PyProof.Rows L2
structure Dat where
 prog:Program
 w:World
 K:PySem.W.Frag
 mg:Str->Option Value
 base:Heap
 N:List Str
 sc:Scope
 k:Nat
 fn:Bool
 cod:Value:=.none
 qual:Str:=""
structure m5 (D:Dat) (X:Cx):Prop where
 prog:X.prog=D.prog
 w:X.w=D.w
 K:X.K=D.K
 mg:X.mg=D.mg
 base:X.base=D.base
 N:X.N=D.N
 sc:X.env.scope=D.sc
 room:iT D.k X.A
 calm:X.calm=true
 xe:X.xe=fun _ _=>False
 fn:D.fn=true->∀ x,X.fn x=true
 cod:D.cod≠.none->X.env.code=D.cod/\X.env.qual=D.qual
noncomputable def bG (D:Dat) (e:Expr) (t':UE):Prop:=∃ t,(∀ X,m5 D X->PE X e t)/\cU D.K t t'
noncomputable def rE (D:Dat) (e:Expr) (t':UT):Prop:=∃ t,(∀ X,m5 D X->PT X e t)/\kO D.K t t'
noncomputable def m7 (D:Dat) (e:Expr) (t':UT):Prop:=∃ t,(∀ X,m5 D X->PW X e t)/\kO D.K t t'
noncomputable def m9 (D:Dat) (es:List Expr) (t':UA):Prop:=∃ t,(∀ X,m5 D X->PA X es t)/\lK D.K t t'
noncomputable def rO (D:Dat) (s:Stmt) (t':US):Prop:=∃ t,(∀ X,m5 D X->PS X s t)/\lI D.K t t'
noncomputable def q8 (D:Dat) (s:List Stmt) (t':US):Prop:=∃ t,(∀ X,m5 D X->rT X s t)/\lI D.K t t'
noncomputable def Dn (D:Dat) (k:Nat) (e:Expr) (g':UG):Prop:=∃ g,(∀ X,m5 D X->PG X e g)/\Ae D.K g g'/\GK k g/\∀ x σ H Q Q',(∀ σ2 H2,Q σ2 H2->Q' σ2 H2)->g x σ H Q->g x σ H Q'
noncomputable def G2 (D:Dat) (k:Nat) (es:List Expr) (g':A4):Prop:=∃ g,(∀ X,m5 D X->JM X es g)/\AD D.K g g'/\JA k g/\∀ x σ H Q Q',(∀ σ2 H2,Q σ2 H2->Q' σ2 H2)->g x σ H Q->g x σ H Q'
noncomputable def rJ (D:Dat) (tg e:Expr) (t':UI):Prop:=∃ t,(∀ X,m5 D X->PI X tg e t)/\nU D.K t t'
noncomputable def Nf (D:Dat) (e:Option Expr) (t':UO):Prop:=∃ t,(∀ X,m5 D X->PO X e t)/\DH D.K t t'
noncomputable def Ij (D:Dat) (es:List Expr) (t':UT):Prop:=∃ t,(∀ X,m5 D X->GH X es t)/\kO D.K t t'
section
variable {D:Dat} {a b c e o:Expr} {ta tb tc te:UE} {pos:Pos}
theorem uv (i:Nat) {x:Str} (hN:D.N[i]?=some x:=by rfl) (hv:Ru D.sc x:=by first | exact Or.inl rfl | exact Or.inr (Or.inl rfl) | exact Or.inr (Or.inr rfl)) (hd:(x == ("__debug__":Str))=false:=by decide)
  (hcd:(x == ("__classdict__":Str))=false:=by decide):bG D (.Name x pos) (pA i) :=
 ⟨_,fun X h=>QM (by rw [h.N];exact hN) (by rw [h.sc];exact hv) hd hcd,Ob i⟩
theorem aF {i j}:bG D (.Constant (.int i) j pos) (uC (.int i)):=⟨_,fun X h=>Qo,OO⟩
theorem m8 {i j}:bG D (.Constant (.bool i) j pos) (uC (.bl i)):=⟨_,fun X h=>Sw,Qx⟩
theorem cR {i j}:bG D (.Constant (.str i) j pos) (uC (.str i)):=⟨_,fun X h=>Qy,Oc⟩
theorem Qa {x:Str} {f:Addr} (hm:D.mg x=some (.ref f)) (hg:D.sc.names.lookup x=some .globalImplicit:=by rfl) (hd:(x == ("__debug__":Str))=false:=by decide):bG D (.Name x pos) (uC (.ref f)) :=
 ⟨_,fun X h=>Pb (v:=.ref f) (by show X.env.scope.names.lookup x=_;rw [h.sc];exact hg) (by rw [h.mg];exact hm) rfl hd,OS⟩
theorem NH {x:Str} {n:String} (hm:D.mg x=none) (hv:bootBuiltins x=some (.type n):=by kernel_rfl) (hg:D.sc.names.lookup x=some .globalImplicit:=by rfl) (hn:x≠"__name__":=by decide) (hd:(x == ("__debug__":Str))=false:=by decide):bG D (.Name x pos) (uC (.ty n)) :=
 ⟨_,fun X h=>PV (v:=.ty n) (by show X.env.scope.names.lookup x=_;rw [h.sc];exact hg) (by rw [h.mg];exact hm) hv rfl hn hd,Ql⟩
theorem yE {op:Operator} {r:R2} {r':fF} (ho:∀ X,m5 D X->fE X (binaryOp op) r) (hr:gI D.K r r') (ha:bG D a ta) (hb:bG D b tb):bG D (.BinOp a op b pos) (lH r' ta tb):=by
 obtain ⟨x,p,s⟩:=ha;obtain ⟨y,q,r⟩:=hb
 exact ⟨_,fun X h=>Sd (ho X h) (p X h) (q X h),wY hr s r⟩
theorem oT (ha:bG D a ta) (hb:bG D b tb):bG D (.BinOp a .Sub b pos) (lH (pK fun i j=>.int (i - j)) ta tb):=yE (fun _ _=>Qe) D0 ha hb
theorem bO (ha:bG D a ta) (hb:bG D b tb):bG D (.BinOp a .Mod b pos) (lH (uI (fun _ j=>0 < j) fun i j=>.int (i % j)) ta tb):=yE (fun _ _=>Q3) rZ ha hb
theorem AY (ha:bG D a ta) (hb:bG D b tb):bG D (.BinOp a .Pow b pos) (lH (uI D6 fun i j=>.int (i ^ j.toNat)) ta tb):=yE (fun _ _=>QC) rZ ha hb
noncomputable def rA (o:Bool):fF:=fun x y M Q=>match x,y with
 | .int i,.int j=>Q (.int (i + j)) M
 | .str i,.str j=>i.length + j.length<=sizeLine/\Q (.str (i++j)) M
 | .tup us,.tup ws=>us.length + ws.length<=sizeLine/\Q (.tup (us++ws)) M
 | x,y=>mO o x y M Q
noncomputable def Nn (K:PySem.W.Frag):R2:=fun x y H Q=>wH (fun i j=>.int (i + j)) x y H Q\/((∃ i j,x=.str i/\y=.str j/\i.length + j.length<=sizeLine/\Q (.str (i++j)) H)\/(Dk K x y H Q\/IG K x y H Q))
theorem OH {K:PySem.W.Frag} {o:Bool}:gI K (Nn K) (rA o):=fun x y u w H M Q' rm ru rw h Q c=>by
 unfold rA at h
 split at h
 ·exact .inl (D0 x y _ _ H M Q' rm ru rw h Q c)
 ·exact .inr (.inl (ME x y _ _ H M Q' rm ru rw h Q c))
 ·exact .inr (.inr (.inl (Lh x y _ _ H M Q' rm ru rw h Q c)))
 ·exact .inr (.inr (.inr (LF x y _ _ H M Q' rm ru rw h Q c)))
theorem bL (own:Bool:=false) (ha:bG D a ta) (hb:bG D b tb):bG D (.BinOp a .Add b pos) (lH (rA own) ta tb) :=
 yE (r:=Nn D.K) (fun X h=>by have:=Rm.or (Hf.or ((LK (X:=X)).or (NZ (X:=X))));rw [h.K] at this;exact this) OH ha hb
theorem lY (ha:bG D a ta):bG D (.UnaryOp .USub a pos) (zP (fun x M Q=>match x with | .int i=>Q (.int (-i)) M | _=>False) ta):=by
 obtain ⟨x,p,s⟩:=ha
 refine ⟨_,fun X h=>Sk RD (p X h),Qr (fun x u H M Q' rm ru h Q c=>?_) s⟩
 cases u with
 | int i=>exact ⟨i,ru.int,c.here rm dI h⟩
 | _=>exact h.elim
theorem Rb {op:CmpOp} {r:R2} {r':fF} (ho:∀ X,m5 D X->fE X (compareOp op) r) (hr:gI D.K r r') (ha:bG D a ta) (hb:bG D b tb) (hm:behindInMarks op b=false):bG D (.Compare a [op] [b] pos) (lH r' ta tb):=by
 obtain ⟨x,p,s⟩:=ha;obtain ⟨y,q,r⟩:=hb
 exact ⟨_,fun X h=>O9 (ho X h) (p X h) (q X h) hm,wY hr s r⟩
theorem QT {op:CmpOp} {r:R2} {r':fF} (ho:∀ X,m5 D X->fE X (compareOp op) r) (hr:gI D.K r r') (ha:bG D a ta) (hb:bG D b tb) (hm:behindInMarks op b=false):rE D (.Compare a [op] [b] pos) (mV (lH r' ta tb)):=by
 obtain ⟨x,p,s⟩:=ha;obtain ⟨y,q,r⟩:=hb
 exact ⟨_,fun X h=>PK (ho X h) (p X h) (q X h) hm,MW (wY hr s r)⟩
noncomputable abbrev BQ:fF:=pK fun i j=>.bl (decide (i < j))
noncomputable abbrev AJ:fF:=pK fun i j=>.bl (decide (i<=j))
noncomputable abbrev Am:fF:=pK fun i j=>.bl (decide (j < i))
noncomputable abbrev AH:fF:=pK fun i j=>.bl (decide (j<=i))
structure t6 (D:Dat) (op:CmpOp) (r':fF):Prop where
 ex:∃ r:R2,(∀ X,m5 D X->fE X (compareOp op) r)/\gI D.K r r'
theorem HG:t6 D .LtE AJ:=⟨⟨_,fun _ _=>SA,rX⟩⟩
theorem xP:t6 D .Gt Am:=⟨⟨_,fun _ _=>Sf,rX⟩⟩
theorem S7:t6 D .GtE AH:=⟨⟨_,fun _ _=>Sm,rX⟩⟩
noncomputable def wJ (neg:Bool):fF:=fun x y M Q=>match x,y with
 | .str i,.str j=>Q (.bl (if neg then !(!(Builtin.Str.occurrences j i 0 j.length 1).isEmpty) else !(Builtin.Str.occurrences j i 0 j.length 1).isEmpty)) M
 | _,_=>False
theorem xB {op:CmpOp} {r':fF} (k:t6 D op r') (ha:bG D a ta) (hb:bG D b tb) (hm:behindInMarks op b=false:=by first | exact JV _ | with_unfolding_all rfl):bG D (.Compare a [op] [b] pos) (lH r' ta tb) :=
 let ⟨_,h1,h2⟩:=k.ex;Rb h1 h2 ha hb hm
theorem b8 {op:CmpOp} {r':fF} (k:t6 D op r') (ha:bG D a ta) (hb:bG D b tb) (hm:behindInMarks op b=false:=by first | exact JV _ | with_unfolding_all rfl):rE D (.Compare a [op] [b] pos) (mV (lH r' ta tb)) :=
 let ⟨_,h1,h2⟩:=k.ex;QT h1 h2 ha hb hm
theorem Nm {op op':CmpOp} {r r':fF} (k:t6 D op r) (k':t6 D op' r') (ha:bG D a ta) (hb:bG D b tb) (hc:bG D c tc) (hm:lastMarks [op,op'] [b,c]=false:=by with_unfolding_all rfl) :
  bG D (.Compare a [op,op'] [b,c] pos) (lR r r' ta tb tc):=by
 obtain ⟨x,p,s⟩:=ha;obtain ⟨y,q,r⟩:=hb;obtain ⟨z,u,v⟩:=hc
 obtain ⟨_,h1,h2⟩:=k.ex
 obtain ⟨_,h3,h4⟩:=k'.ex
 exact ⟨_,fun X h=>LV (h1 X h) (h3 X h) (p X h) (q X h) (u X h) hm,Km h2 h4 s r v⟩
theorem jQ (ha:bG D a ta) (he:∀ env whole,isTrue a env whole=(do let v <- whole;standAt a.pos;holding [v] (truthy v)):=by intro _ _;rfl):rE D a (sI ta):=by
 obtain ⟨x,p,s⟩:=ha
 refine ⟨_,fun X h=>?_,Pq s⟩
 have:=LD (p X h) (he X.env)
 rw [h.K] at this
 exact this
theorem m7.pt {t:UT} (h:m7 D a t):rE D a t:=let ⟨_,p,s⟩:=h;⟨_,fun X h=>(p X h).pt,s⟩
variable {rest:List Expr} {tA tB':UT}
theorem mJ (ha:rE D a tA):m7 D (.BoolOp .And [a] pos) tA:=let ⟨_,p,s⟩:=ha;⟨_,fun X h=>PM (p X h),s⟩
theorem DO (ha:rE D a tA):m7 D (.BoolOp .Or [a] pos) tA:=let ⟨_,p,s⟩:=ha;⟨_,fun X h=>Qp (p X h),s⟩
theorem kM (ha:rE D a tA) (hb:m7 D (.BoolOp .And (b :: rest) pos) tB'):m7 D (.BoolOp .And (a :: b :: rest) pos) (tB tA tB'):=let ⟨_,p,s⟩:=ha;let ⟨_,q,r⟩:=hb;⟨_,fun X h=>Ry (p X h) (q X h),N1 s r⟩
theorem C0 (ha:rE D a tA) (hb:m7 D (.BoolOp .Or (b :: rest) pos) tB'):m7 D (.BoolOp .Or (a :: b :: rest) pos) (yV tA tB'):=let ⟨_,p,s⟩:=ha;let ⟨_,q,r⟩:=hb;⟨_,fun X h=>R9 (p X h) (q X h),RF s r⟩
theorem wN (ha:rE D a tA):rE D (.UnaryOp .Not a pos) (tF tA):=let ⟨_,p,s⟩:=ha;⟨_,fun X h=>QU (p X h),OE s⟩
theorem DU {op} (ha:bG D a ta):bG D (.BoolOp op [a] pos) ta:=let ⟨_,p,s⟩:=ha;⟨_,fun X h=>Qq (p X h),s⟩
theorem IT (ha:bG D a ta) (hb:bG D (.BoolOp .And (b :: rest) pos) tb):bG D (.BoolOp .And (a :: b :: rest) pos) (n9 ta tb):=let ⟨_,p,s⟩:=ha;let ⟨_,q,r⟩:=hb;⟨_,fun X h=>Qw (p X h) (q X h),MD s r⟩
theorem SD (ha:bG D a ta) (hb:bG D (.BoolOp .Or (b :: rest) pos) tb):bG D (.BoolOp .Or (a :: b :: rest) pos) (tQ ta tb):=let ⟨_,p,s⟩:=ha;let ⟨_,q,r⟩:=hb;⟨_,fun X h=>Sj (p X h) (q X h),PD s r⟩
theorem Sz (hc:rE D c tA) (ha:bG D a ta) (hb:bG D b tb):bG D (.IfExp c a b pos) (yU tA ta tb):=let ⟨_,p,s⟩:=ha;let ⟨_,q,r⟩:=hb;let ⟨_,u,v⟩:=hc;⟨_,fun X h=>Ly (u X h) (p X h) (q X h),QD v s r⟩
variable {es:List Expr} {tas:UA}
theorem aB:m9 D [] sO:=⟨_,fun X h=>JJ,OZ⟩
theorem aA (ha:bG D e te) (hr:m9 D es tas) (hs:∀ env,starEach (e :: es) env=(false,eval e env) :: starEach es env:=by intro _;rfl):m9 D (e :: es) (n8 te tas):=let ⟨_,p,s⟩:=ha;let ⟨_,q,r⟩:=hr;⟨_,fun X h=>F4 (p X h) (q X h) (hs _),LS s r⟩
theorem aY {x1} (h:m9 D es tas):bG D (.Tuple es x1 pos) (sX tas):=let ⟨_,p,s⟩:=h;⟨_,fun X h=>QX (p X h),Oe s⟩
theorem cX (own:Bool:=false) (h:m9 D es tas):bG D (.List es pos) (sQ own tas):=let ⟨_,p,s⟩:=h;⟨_,fun X h=>RH (p X h),PU s⟩
theorem aG (ha:bG D a ta) (hb:bG D b tb) (hs:FW b:=by intro _ _;rfl):bG D (.Subscript a b pos) (lH xU ta tb):=by
 obtain ⟨x,p,s⟩:=ha;obtain ⟨y,q,r⟩:=hb
 refine ⟨_,fun X h=>?_,wY Ra s r⟩
 have:=Sx (pos:=pos) QF (p X h) (q X h) hs
 rw [h.K] at this
 exact this
theorem k0:Nf D none j9:=⟨_,fun X h=>O5,Ig⟩
theorem jU (h:bG D e te):Nf D (some e) (oM te):=let ⟨_,p,s⟩:=h;⟨_,fun X h=>Gs (p X h),Mw s⟩
variable {st:Stmt} {sts body body2:List Stmt} {t u:US}
theorem bI:q8 D [] cN:=⟨_,fun X h=>Pp,LO⟩
theorem aD (h1:rO D st t) (h2:q8 D sts u):q8 D (st :: sts) (eO t u):=let ⟨_,p,s⟩:=h1;let ⟨_,q,r⟩:=h2;⟨_,fun X h=>MF (p X h) (q X h),Pa s r⟩
theorem aE (h1:rO D st t):q8 D [st] t:=let ⟨_,p,s⟩:=h1;⟨_,fun X h=>NX (p X h),s⟩
theorem e6 (he:bG D e te) (hs:∀ env,swapsWith e none pos.line env=pure false:=by intro _;rfl):rO D (.Expr e pos) (i5 te):=let ⟨_,p,s⟩:=he;⟨_,fun X h=>Pk (p X h) (hs _),Mg s⟩
theorem aV (he:bG D e te):rO D (.Return (some e) pos) (cT te):=let ⟨_,p,s⟩:=he;⟨_,fun X h=>PY (p X h),N2 s⟩
theorem b6 {c:Expr} {tc:UT} (hc:rE D c tc) (ha:q8 D body t) (hb:q8 D body2 u):rO D (.If c body body2 pos) (jI tc t u):=let ⟨_,p,s⟩:=ha;let ⟨_,q,r⟩:=hb;let ⟨_,x,y⟩:=hc;⟨_,fun X h=>Sg (x X h) (p X h) (q X h),Od y s r⟩
theorem u9 {c:Expr} {tc:UT} (hc:rE D c tc) (hb:q8 D body t):rO D (.While c body [] pos) (EB tc t):=by
 obtain ⟨_,p,s⟩:=hb;obtain ⟨_,x,y⟩:=hc
 exact ⟨_,fun X h=>Mq (by rw [h.xe];exact PassesOwn.never) (x X h) (p X h),Jt y s⟩
variable {k:Nat} {g:UG} {gs:A4}
theorem aN (i:Nat) {x:Str} (hN:D.N.Nodup) (hi:D.N[i]?=some x:=by rfl) (hx:Loc D.sc x:=by first | exact Or.inl rfl | exact Or.inr rfl) (hik:i < k:=by decide) (hf:D.fn=true\/D.sc.names.lookup x=some .local:=by first | exact .inl rfl | exact .inr rfl):Dn D k (.Name x pos) (hName i) :=
 ⟨_,fun X h=>OI (i:=i) (by rw [h.N];exact hN) (by rw [h.N];exact hi) (by rw [h.sc];exact hx) (by rcases hf with z | z;exact .inl (h.fn z x);exact .inr (by rw [h.sc];exact z)),w9 i,PQ hik,RU⟩
theorem dH:G2 D k [] cB:=⟨_,fun X h=>O1,LA,Qt,Se⟩
theorem bB (h1:Dn D k e g) (h2:G2 D k es gs) (hs:∀ env,(assignEach (e :: es) env).map (·.2)=assign e env :: (assignEach es env).map (·.2):=by intro _;rfl):G2 D k (e :: es) (bM g gs) :=
 let ⟨_,p,s,x,y⟩:=h1;let ⟨_,q,r,z,w⟩:=h2;⟨_,fun X h=>Md (p X h) (q X h) (hs _),K4 s r,OL x z w y,Ro y w⟩
theorem eJ {kk:Nat} {n:Nat} (h:G2 D k es gs) (hn:∀ env,(assignEach es env).length=n:=by intro _;rfl) (hst:∀ env,(assignEach es env).findIdx? (·.1)=none:=by intro _;rfl):Dn D k (.Tuple es kk pos) (bV n gs):=by
 obtain ⟨_,p,s,x,y⟩:=h
 refine ⟨_,fun X h=>?_,Lm s,RZ x,So y⟩
 have:=Rq (pos:=pos) (k:=kk) h.calm (p X h) (hn _) (hst _)
 rw [h.K] at this
 exact this
theorem DK {tg:Expr} (he:bG D e te) (hg:Dn D k tg g) (hs:∀ env,swapsWithSole [tg] e pos.line env=pure false:=by intro _;rfl) (hw:∀ env,swappedStores [tg] e env=pure none:=by intro _;rfl)
  (h1:∀ env,(assignEach [tg] env).map (·.2)=[assign tg env]:=by intro _;rfl):rO D (.Assign [tg] e pos) (bJ te g):=let ⟨_,p,s⟩:=he;let ⟨_,q,r,_⟩:=hg;⟨_,fun X h=>JK (p X h) (q X h) (hs _) (hw _) (h1 _),BC s r⟩
theorem aO (i:Nat) {x:Str} {pos':Pos} (hN:D.N.Nodup) (he:bG D e te) (hi:D.N[i]?=some x:=by rfl) (hx:Loc D.sc x:=by first | exact Or.inl rfl | exact Or.inr rfl) (hs:∀ env,swapsWith e (some (.Name x pos')) pos.line env=pure false:=by intro _;rfl)
  (hf:D.fn=true\/D.sc.names.lookup x=some .local:=by first | exact .inl rfl | exact .inr rfl):rO D (.Assign [.Name x pos'] e pos) (bJ te (hName i)):=by
 obtain ⟨_,p,s⟩:=he
 exact ⟨_,fun X h=>Rk (i:=i) (by rw [h.N];exact hN) (by rw [h.N];exact hi) (by rw [h.sc];exact hx) (p X h) (hs _) (by rcases hf with z | z;exact .inl (h.fn z x);exact .inr (by rw [h.sc];exact z)),BC s (w9 i)⟩
variable {tg iter:Expr} {wi:UI}
theorem c9 (h:bG D e te):rJ D tg e (oI te):=by
 obtain ⟨_,p,s⟩:=h
 refine ⟨_,fun X h=>?_,Ln s⟩
 have:=RV (tg:=tg) (p X h)
 rw [h.K] at this
 exact this
theorem qC {p:Pos} {ta:UA} (hm:D.mg "range"=none) (ha:m9 D [a] ta) (hg:D.sc.names.lookup ("range":Str)=some .globalImplicit:=by rfl) (hs:∀ env,starEach [a] env=[(false,eval a env)]:=by intro _;rfl):rJ D tg (.Call (.Name "range" p) [a] [] pos) (oK ta):=by
 obtain ⟨_,q,s⟩:=ha
 exact ⟨_,fun X h=>K6 (by show X.env.scope.names.lookup _=_;rw [h.sc];exact hg) (by rw [h.mg];exact hm) (q X h) (hs _),LI s⟩
theorem OT {p:Pos} {ta:UA} (hm:D.mg "range"=none) (ha:m9 D [a,b] ta) (hg:D.sc.names.lookup ("range":Str)=some .globalImplicit:=by rfl) (hs:∀ env,starEach [a,b] env=[(false,eval a env),(false,eval b env)]:=by intro _;rfl) (hs2:∀ env,starEach [b] env=[(false,eval b env)]:=by intro _;rfl):rJ D tg (.Call (.Name "range" p) [a,b] [] pos) (oN ta):=by
 obtain ⟨_,q,s⟩:=ha
 exact ⟨_,fun X h=>IQ (by show X.env.scope.names.lookup _=_;rw [h.sc];exact hg) (by rw [h.mg];exact hm) (q X h) (hs _) (hs2 _),Nc s⟩
theorem cS (hi:rJ D tg iter wi) (hg:Dn D k tg g) (hb:q8 D body t) (hs:∀ env x,foldedSetIterable iter env x=pure x:=by intro _ _;rfl):rO D (.For tg iter body [] pos) (L3 wi g t):=by
 obtain ⟨_,p,s⟩:=hi;obtain ⟨_,q,r,_⟩:=hg;obtain ⟨_,x,y⟩:=hb
 exact ⟨_,fun X h=>Qg (by rw [h.xe];exact PassesOwn.never) h.calm (p X h) (q X h) (x X h) (hs _),OQ s r y⟩
end
end U2
namespace U2
open PySem PySem.Spec PyProof.Rows L2
structure Callee (P:Program) (w:World) (K:PySem.W.Frag) (mg:Str->Option Value) (base:Heap) (j:Nat) (x:Str) (sp:c8) (dus:List U):Prop where
 ex:∃ f fd ps dvs ds,mD P w K mg base zF j f fd ps (lS K sp)/\mg x=some (.ref f)/\PySem.W.keepIn K (.ref f)=true/\Binds K fd ps ds/\Vals dvs ds/\∀ H M,aM K H M dus dvs
noncomputable abbrev Tw (D:Dat):=Callee D.prog D.w D.K D.mg D.base
section
variable {D:Dat} {a b c e o:Expr} {ta tb tc te:UE} {pos p:Pos} {es:List Expr} {tas:UA} {x:Str}
theorem aR {sp:c8} {dus:List U} {j:Nat} (F:Tw D j x sp dus) (ha:m9 D (e :: es) tas) (hj:j<=D.k:=by first | exact Nat.le_refl _ | (dsimp only;omega) | omega | (dsimp only [cJ];omega)) (hg:D.sc.names.lookup x=some .globalImplicit:=by rfl) (hdb:(x == ("__debug__":Str))=false:=by decide)
  (he:∀ env,starEach (e :: es) env=(false,eval e env) :: starEach es env:=by intro _;rfl) (hpl:∀ env,(backTo pos (starEach es env)).any (·.1)=false:=by intro _;rfl):bG D (.Call (.Name x p) (e :: es) [] pos) (oB sp dus tas):=by
 obtain ⟨f,fd,ps,dvs,ds,F,hm,kp,hb,hd,hr⟩:=F.ex
 obtain ⟨_,q,s⟩:=ha
 refine ⟨HA (lS D.K sp) dvs E0 _,fun X h=>?_,MB hr s⟩
 have F':mD X.prog X.w X.K X.mg X.base zF j f fd ps (lS D.K sp):=by rw [h.prog,h.w,h.K,h.mg,h.base];exact F
 exact PF F' (h.room.mono hj) (by show X.env.scope.names.lookup x=_;rw [h.sc];exact hg) (by rw [h.mg];exact hm) (by rw [h.K];exact kp) (by rw [h.K];exact hb) hd R3 (q X h) hdb (he _) (hpl _)
structure rM (D:Dat) (f:Value) (r':List U->aH->UK->Prop):Prop where
 ex:∃ r,(∀ X,m5 D X->h8 X f r)/\rF D.K r r'
theorem dA {id:String} {r':List U->aH->UK->Prop} (k:rM D (.builtin id) r') (hm:D.mg x=none) (ha:m9 D (e :: es) tas) (hv:bootBuiltins x=some (.builtin id):=by kernel_rfl) (hg:D.sc.names.lookup x=some .globalImplicit:=by rfl) (hn:x≠"__name__":=by decide) (hdb:(x == ("__debug__":Str))=false:=by decide)
  (he:∀ env,starEach (e :: es) env=(false,eval e env) :: starEach es env:=by intro _;rfl) (hpl:∀ env,(backTo pos (starEach es env)).any (·.1)=false:=by intro _;rfl):bG D (.Call (.Name x p) (e :: es) [] pos) (xO r' tas):=by
 obtain ⟨r,h1,h2⟩:=k.ex
 obtain ⟨_,q,s⟩:=ha
 exact ⟨_,fun X h=>Ls (h1 X h) (by show X.env.scope.names.lookup x=_;rw [h.sc];exact hg) (by rw [h.mg];exact hm) hv (q X h) hn hdb (he _) (hpl _),I0 h2 s⟩
theorem Bx {T:String} {r':List U->aH->UK->Prop} (k:rM D (.type T) r') (hm:D.mg x=none) (ha:m9 D (e :: es) tas) (hv:bootBuiltins x=some (.type T):=by kernel_rfl) (hg:D.sc.names.lookup x=some .globalImplicit:=by rfl) (hn:x≠"__name__":=by decide) (hdb:(x == ("__debug__":Str))=false:=by decide)
  (he:∀ env,starEach (e :: es) env=(false,eval e env) :: starEach es env:=by intro _;rfl) (hpl:∀ env,(backTo pos (starEach es env)).any (·.1)=false:=by intro _;rfl):bG D (.Call (.Name x p) (e :: es) [] pos) (xO r' tas):=by
 obtain ⟨r,h1,h2⟩:=k.ex
 obtain ⟨_,q,s⟩:=ha
 exact ⟨_,fun X h=>Jn (h1 X h) (by show X.env.scope.names.lookup x=_;rw [h.sc];exact hg) (by rw [h.mg];exact hm) hv (q X h) hn hdb (he _) (hpl _),I0 h2 s⟩
theorem dW:rM D (.builtin "len") qZ:=⟨⟨_,fun X h=>by have:=Ml (X:=X);rw [h.K] at this;exact this,Py⟩⟩
theorem NK:rM D (.builtin "abs") (mY (fun _=>True) fun i=>.int (if i < 0 then -i else i)):=⟨⟨_,fun X h=>Mv,NY⟩⟩
theorem Sy:rM D (.builtin "min") (mN fun i j=>.int (if j < i then j else i)):=⟨⟨_,fun X h=>J4 h.calm,Lk⟩⟩
theorem QH (own:Bool:=false):rM D (.type "list") (mW own):=⟨⟨_,fun X h=>by have:=DR (X:=X);rw [h.K] at this;exact this,Mx⟩⟩
theorem BO:rM D (.type "tuple") kK:=⟨⟨_,fun X h=>by have:=CQ (X:=X);rw [h.K] at this;exact this,Kw⟩⟩
noncomputable def Qi (K:PySem.W.Frag):List V->Hp->VK->Prop:=fun xs H Q=>∃ x T t b,xs=[x,.ty T]/\(nE K H x (.type t)\/(t="tuple"/\∃ p vs ob,x=.ref p/\H p=some (.frz ob (.tup vs)))\/(t="tuple"/\∃ p vs,x=.ref p/\KT K p vs)\/(t="list"/\∃ p vs,x=.ref p/\KL K p vs)\/(t="dict"/\∃ p ob u,x=.ref p/\H p=some (.frz ob u)/\sN u=true))/\PySem.W.kitOne K (.type t) (.type T)=some b/\Q (.bl b) H
theorem LX {X:Cx}:h8 X (.builtin "isinstance") (Qi X.K):=by
 intro pins s σ H xs us Q I r h
 obtain ⟨x,T,t,b,rfl,ty,e,q⟩:=h
 obtain ⟨u,w',rfl,ru,rw'⟩:=vals2 r
 cases rw'
 rcases ty with ty | ⟨rfl,p,vs,ob,rfl,m⟩ | ⟨rfl,p,vs,rfl,o,its,n,hk,hc,hd,_,_⟩ | ⟨rfl,p,vs,rfl,o,its,n,hk,hc,_,hd,_,_⟩ | ⟨rfl,p,ob,du,rfl,m,dk⟩
 ·exact KW I ru ty e fun tk=>⟨.bl b,H,I.tok tk,rfl,q⟩
 ·cases ru
  obtain ⟨_,_,_,_,o,h1,h2,_⟩:=(show c6 X.prog X.w H s.heap p (.frz ob (.tup vs)) from I.hok p _ m)
  exact PySem.W.kia_one PySem.W.kitx_tuple I.kIn ⟨o,h1,h2⟩ e (fun z=>nomatch z) fun tk=>⟨.bl b,H,I.tok tk,rfl,q⟩
 ·cases ru
  exact PySem.W.kia_one PySem.W.kitx_tuple I.kIn ⟨o,I.kIn _ _ hk,hc⟩ e (fun z=>nomatch z) fun tk=>⟨.bl b,H,I.tok tk,rfl,q⟩
 ·cases ru
  exact PySem.W.kia_one PySem.W.kitx_list I.kIn ⟨o,I.kIn _ _ hk,hc⟩ e (fun z=>nomatch z) fun tk=>⟨.bl b,H,I.tok tk,rfl,q⟩
 ·cases ru
  obtain ⟨hg,ho⟩:=(show c6 X.prog X.w H s.heap p (.frz ob du) from I.hok p _ m)
  have hx:∃ o,s.heap.get? p=some o/\o.cls=.type "dict":=by
   cases du with
   | dK kvs=>obtain ⟨_,_,_,_,o,_,_,h1,h2,_⟩:=ho;exact ⟨o,h1,h2.1⟩
   | dT kvs=>obtain ⟨_,_,_,_,o,_,_,h1,h2,_⟩:=ho;exact ⟨o,h1,h2.1⟩
   | _=>cases dk
  exact PySem.W.kia_one PySem.W.kitx_dict I.kIn hx e (fun z=>nomatch z) fun tk=>⟨.bl b,H,I.tok tk,rfl,q⟩
noncomputable def Ap:List (String × String × Bool):=[("NoneType","bool",false),("NoneType","int",false),("NoneType","str",false),("NoneType","tuple",false),("NoneType","list",false),("NoneType","dict",false),("bool","bool",true),("bool","int",true),("bool","str",false),("bool","tuple",false),("bool","list",false),("bool","dict",false),("int","bool",false),("int","int",true),("int","str",false),("int","tuple",false),("int","list",false),("int","dict",false),("str","bool",false),("str","int",false),("str","str",true),("str","tuple",false),("str","list",false),("str","dict",false),("tuple","bool",false),("tuple","int",false),("tuple","str",false),("tuple","tuple",true),("tuple","list",false),("tuple","dict",false),("list","bool",false),("list","int",false),("list","str",false),("list","tuple",false),("list","list",true),("list","dict",false),("dict","bool",false),("dict","int",false),("dict","str",false),("dict","tuple",false),("dict","list",false),("dict","dict",true)]
theorem J3 {K:PySem.W.Frag}:∀ r∈Ap,PySem.W.kitOne K (.type r.1) (.type r.2.1)=some r.2.2:=by
 intro r hr
 simp only [Ap,List.mem_cons,List.not_mem_nil,or_false] at hr
 rcases hr with rfl | rfl | rfl | rfl | rfl | rfl | rfl | rfl | rfl | rfl | rfl | rfl | rfl | rfl | rfl | rfl | rfl | rfl | rfl | rfl | rfl | rfl | rfl | rfl | rfl | rfl | rfl | rfl | rfl | rfl | rfl | rfl | rfl | rfl | rfl | rfl | rfl | rfl | rfl | rfl | rfl | rfl <;> first | rfl | kernel_rfl
noncomputable def bN (t T:String):Option Bool:=(Ap.find? fun r=>r.1 == t && r.2.1 == T).map (·.2.2)
theorem Jb {K:PySem.W.Frag} {t T:String} {b:Bool} (h:bN t T=some b):PySem.W.kitOne K (.type t) (.type T)=some b:=by
 unfold bN at h
 cases e:Ap.find? fun r=>r.1 == t && r.2.1 == T with
 | none=>rw [e] at h;cases h
 | some r =>
  rw [e] at h
  cases h
  have h1:=List.find?_some e
  have h2:=J3 (K:=K) r (List.mem_of_find?_eq_some e)
  simp only [Bool.and_eq_true,beq_iff_eq] at h1
  rw [h1.1,h1.2] at h2
  exact h2
noncomputable def mQ:List U->aH->UK->Prop:=fun us M Q=>match us with
 | [x,.ty T]=>match sS M x with
  | some t=>match bN t T with
   | some b=>Q (.bl b) M
   | none=>False
  | none=>False
 | _=>False
theorem Ph {K:PySem.W.Frag}:rF K (Qi K) mQ:=fun xs us H M Q' rm rus h Q c=>by
 unfold mQ at h
 split at h
 ·rename_i x T
  split at h
  ·rename_i t e
   split at h
   ·rename_i b e2
    obtain ⟨v,z,rfl,a1,a2⟩:=rus.two
    cases a2.ty
    refine ⟨v,T,t,b,rfl,?_,Jb e2,c.here rm iR h⟩
    cases x with
    | non=>cases a1.non;cases e;exact .inl .non
    | bl y=>cases a1.bl;cases e;exact .inl (.bl y)
    | int y=>cases a1.int;cases e;exact .inl (.int y)
    | str y=>cases a1.str;cases e;exact .inl (.str y)
    | ty y=>cases e
    | tup y =>
     cases e
     simp only [aQ] at a1
     obtain ⟨a,vs,rfl,m,r⟩:=a1
     exact .inl (.tup m.2)
    | lst y =>
     cases e
     simp only [aQ] at a1
     obtain ⟨a,vs,rfl,m,r⟩:=a1
     rcases m with ⟨_,m | ⟨ob,m⟩⟩ | k
     ·exact .inl (.lst m)
     ·exact .inl (.frz m)
     ·exact .inr (.inr (.inr (.inl ⟨rfl,a,vs,rfl,k⟩)))
    | dic ks tk y =>
     cases e
     simp only [aQ] at a1
     obtain ⟨a,vs,rfl,m,r,_⟩:=a1
     cases tk with
     | true =>
      obtain ⟨ws,h1 | ⟨ob,h1⟩,_⟩:=r
      ·exact .inl (.dT h1)
      ·exact .inr (.inr (.inr (.inr ⟨rfl,a,ob,_,rfl,h1,rfl⟩)))
     | false =>
      obtain ⟨ws,h1 | ⟨ob,h1⟩,_⟩:=r
      ·exact .inl (.dK h1)
      ·exact .inr (.inr (.inr (.inr ⟨rfl,a,ob,_,rfl,h1,rfl⟩)))
    | ref y =>
     cases a1.ref
     simp only [sS] at e
     split at e
     ·rename_i ws e3
      cases e
      obtain ⟨vs,h1,_⟩:=rm y _ e3
      exact .inl (.lst h1)
     ·rename_i ws e4
      cases e
      obtain ⟨vs,h1,_⟩:=rm y _ e4;exact .inl (.dK h1)
     ·rename_i ws e4
      cases e
      obtain ⟨vs,h1,_⟩:=rm y _ e4;exact .inl (.dT h1)
     ·cases e
   ·exact h.elim
  ·exact h.elim
 ·exact h.elim
theorem Nj:rM D (.builtin "isinstance") mQ:=⟨⟨_,fun X h=>by have:=LX (X:=X);rw [h.K] at this;exact this,Ph⟩⟩
noncomputable def zR:List U->Option (List Bool)
 | []=>some []
 | .bl b :: r=>(zR r).map (b :: ·)
 | _=>none
noncomputable def tM:List U->aH->UK->Prop:=fun us M Q=>match us with
 | [x]=>match view M x with
  | .lst ws=>match zR ws with
   | some bs=>Q (.bl (bs.all fun b=>b)) M
   | none=>False
  | _=>False
 | _=>False
theorem Ed {K:PySem.W.Frag} {H:Hp} {M:aH}:∀ {us:List U} {vs:List V} {bs:List Bool},aM K H M us vs->zR us=some bs->vs=bs.map V.bl
 | [],_,_,r,h=>by cases h;exact r.inv_nil
 | u :: us,_,bs,r,h=>by
  obtain ⟨v,vs',rfl,a,b⟩:=r.inv_cons
  cases u with
  | bl y =>
   simp only [zR] at h
   cases e:zR us with
   | none=>rw [e] at h;cases h
   | some cs =>
    rw [e] at h
    cases h
    rw [Ed b e,a.bl];rfl
  | _=>cases h
theorem Si:rM D (.builtin "all") tM:=⟨⟨_,fun X h=>by have:=JL (X:=X) h.calm;rw [h.K] at this;exact this,fun xs us H M Q' rm rus h Q c=>by
 unfold tM at h
 split at h
 ·rename_i x
  obtain ⟨v,rfl,a1⟩:=rus.one
  split at h
  ·rename_i ws e
   split at h
   ·rename_i bs e2
    obtain ⟨b,zvs,rfl,s2,r2⟩:=fK rm a1 e
    rw [Ed r2 e2] at s2
    exact ⟨b,bs,rfl,s2,c.here rm iR h⟩
   ·exact h.elim
  ·exact h.elim
 ·exact h.elim⟩⟩
theorem eM {apos:Pos} (ho:bG D o ta) (ha:m9 D [e] tas) (hbase:∀ env,attributeBase o "append" env (eval o env)=eval o env:=by intro _;rfl)
  (hfew:∀ env,((backTo pos (starEach [e] env)).all (fun x=>!x.1) && (backToKw pos (keywordEach [] env)).all (fun x=>x.1.isSome) && decide ([e].length + ([]:List Keyword).length + (if ([]:List Keyword).isEmpty then 0 else 1) < 30))=true:=by intro _;rfl)
  (hline:(apos.endLine == pos.line)=true:=by rfl) (hs:∀ env,starEach [e] env=[(false,eval e env)]:=by intro _;rfl):bG D (.Call (.Attribute o "append" apos) [e] [] pos) (wF jV ta tas):=by
 obtain ⟨_,p,s⟩:=ho;obtain ⟨_,q,r⟩:=ha
 refine ⟨_,fun X h=>?_,D3 Hm s r⟩
 have:=HD (cpos:=pos) (apos:=apos) PySem.F.plainAttrs_list PySem.F.slot_list_append PySem.F.type_list_append Co (p X h) (q X h) (hbase _) (hfew _) hline (hs _) (by rfl)
 rw [h.K] at this
 exact this
theorem xY {apos:Pos} (ho:bG D o ta) (hbase:∀ env,attributeBase o "pop" env (eval o env)=eval o env:=by intro _;rfl)
  (hline:(apos.endLine == pos.line)=true:=by rfl):bG D (.Call (.Attribute o "pop" apos) [] [] pos) (tH qK ta):=by
 obtain ⟨_,p,s⟩:=ho
 refine ⟨_,fun X h=>?_,O4 OR s⟩
 have:=RQ (cpos:=pos) (apos:=apos) PySem.F.plainAttrs_list PySem.F.slot_list_pop PySem.F.type_list_pop QL (p X h) (hbase _) hline
 rw [h.K] at this
 exact this
noncomputable def eS (scope sc:Scope):Scope :=
 { scope with names:=scope.names.map fun (n,k)=>if (k == .free && sc.kind == .function && sc.names.lookup n == some .cell) then (n,.cell) else (n,k) }
noncomputable def cJ (D:Dat) (N:List Str) (scope:Scope):Dat:={ D with N:=N,sc:=eS scope D.sc,fn:=false,cod:=.none }
theorem m5.comp {X:Cx} (h:m5 D X) (N:List Str) (scope:Scope) (cl:List (Str × Addr)) (C:Addr) (s:Shared) (H:Hp) (fp:List Addr):m5 (cJ D N scope) (fM X N scope cl C s H fp) :=
 ⟨h.prog,h.w,h.K,h.mg,h.base,rfl,by show eS scope X.env.scope=eS scope D.sc;rw [h.sc],h.room,h.calm,rfl,(fun z=>by cases z),(fun z=>absurd rfl z)⟩
theorem iS:Ij D [] (fun _ M Q=>Q true M):=⟨QP,fun X h=>NT,fun σ τ H M Q' rs rm q Q c=>c true M H (bA.refl _ _) rm q⟩
theorem yQ {t:UT} (h:rE D c t):Ij D [c] t:=let ⟨_,p,s⟩:=h;⟨_,fun X h=>Oz (p X h),s⟩
theorem jR (own:Bool) (N:List Str) (k:Nat) (ix:List Nat) {scope:Scope} {tg iter elt:Expr} {ifs:List Expr} {wi:UI} {g:UG} {tcs:UT} (hi:rJ D tg iter wi) (hg:Dn (cJ D N scope) k tg g) (hif:Ij (cJ D N scope) ifs tcs) (he:bG (cJ D N scope) elt te)
  (hk:scope.kind=.function:=by rfl) (hcell:∀ y∈scope.names,y.2≠.cell:=by first | decide +kernel | (dsimp only;decide +kernel) | (dsimp only [cJ,eS];decide +kernel)) (hnames:∀ y∈scope.names,y.2=.local->scope.names.lookup y.1=some .local:=by first | decide +kernel | (dsimp only;decide +kernel) | (dsimp only [cJ,eS];decide +kernel))
  (hfree:∀ y∈scope.names,y.2=.free->D.sc.names.lookup y.1=some .cell\/D.sc.names.lookup y.1=some .free:=by first | decide +kernel | (dsimp only;decide +kernel) | (dsimp only [cJ,eS];decide +kernel)) (hone:∀ y∈scope.names,y.2=.free->scope.names.lookup y.1=some .free:=by first | decide +kernel | (dsimp only;decide +kernel) | (dsimp only [cJ,eS];decide +kernel))
  (hN:ix.map (fun i=>D.N[i]?)=(N.drop k).map some:=by rfl) (hcap:∀ x∈N.drop k,scope.names.lookup x=some .free:=by first | decide +kernel | (dsimp only;decide +kernel) | (dsimp only [cJ,eS];decide +kernel)) (hlen:N.length=k + ix.length:=by rfl)
  (hs:∀ env x,foldedSetIterable iter env x=pure x:=by intro _ _;rfl):bG D (.ListComp elt [⟨tg,iter,ifs,0⟩] scope pos) (uR own k ix wi g tcs te):=by
 obtain ⟨_,p1,s1⟩:=hi;obtain ⟨_,p2,s2,gk,_⟩:=hg;obtain ⟨_,p3,s3⟩:=hif;obtain ⟨_,p4,s4⟩:=he
 have hN':∀ (j:Nat) x,N[k + j]?=some x->∃ i,ix[j]?=some i/\D.N[i]?=some x:=fun j x e=>by
  have e1:((N.drop k).map some)[j]?=some (some x):=by rw [List.getElem?_map,List.getElem?_drop,e];rfl
  rw [<- hN,List.getElem?_map] at e1
  cases q:ix[j]? with
  | none=>rw [q] at e1;cases e1
  | some i=>rw [q] at e1;exact ⟨i,rfl,Option.some.inj e1⟩
 have hcap':∀ (j:Nat) x,N[k + j]?=some x->scope.names.lookup x=some .free:=fun j x e=>hcap x (List.mem_of_getElem? (i:=j) (by rw [List.getElem?_drop];exact e))
 refine ⟨_,fun X h=>Pj (N:=N) (k:=k) (ix:=ix) h.calm (p1 X h) gk hk hcell hnames (fun y hy e=>by show X.env.scope.names.lookup y.1=_\/X.env.scope.names.lookup y.1=_;rw [h.sc];exact hfree y hy e) hone (fun j x e=>by rw [h.N];exact hN' j x e) hcap' hlen
  (fun cl C s H fp=>p2 _ (h.comp N scope cl C s H fp)) (fun cl C s H fp=>p3 _ (h.comp N scope cl C s H fp)) (fun cl C s H fp=>p4 _ (h.comp N scope cl C s H fp)) (hs _),Eu s1 s2 s3 s4⟩
theorem Mm {elt:Expr} {gens:List Comprehension} {scope:Scope} {pos py:Pos} {y:Str} {line:Nat} {env:Env} (h1:env.scope.kind=.function) (h2:env.scope.names.lookup y=some .local) (h3:(py.line == pos.line && !(scope.names.any fun (n,k)=>n == y && (k == .local || k == .cell)))=true) :
  swapsWith (.ListComp elt gens scope pos) (some (.Name y py)) line env=pure true:=by
 have e1:(env.blockKind == .function)=true:=by first | (unfold Env.blockKind;rw [h1];rfl) | (unfold Env.blockKind;simp [h1])
 have e2:(env.kindOf y == some .local)=true:=by unfold Env.kindOf;rw [h2];rfl
 show pure (env.blockKind == .function && env.kindOf y == some .local && py.line == pos.line && !(scope.names.any fun (n,k)=>n == y && (k == .local || k == .cell)))=pure true
 rw [e1,e2]
 simp only [Bool.and_eq_true] at h3
 rw [h3.1,h3.2]
 rfl
theorem p8 (i:Nat) {y:Str} {spos py:Pos} (hNd:D.N.Nodup) (own:Bool) (N:List Str) (k:Nat) (ix:List Nat) {scope:Scope} {tg iter elt:Expr} {ifs:List Expr} {wi:UI} {g:UG} {tcs:UT} (hi:rJ D tg iter wi) (hg:Dn (cJ D N scope) k tg g) (hif:Ij (cJ D N scope) ifs tcs) (he:bG (cJ D N scope) elt te)
  (hk:scope.kind=.function:=by rfl) (hcell:∀ y∈scope.names,y.2≠.cell:=by first | decide +kernel | (dsimp only;decide +kernel) | (dsimp only [cJ,eS];decide +kernel)) (hnames:∀ y∈scope.names,y.2=.local->scope.names.lookup y.1=some .local:=by first | decide +kernel | (dsimp only;decide +kernel) | (dsimp only [cJ,eS];decide +kernel))
  (hfree:∀ y∈scope.names,y.2=.free->D.sc.names.lookup y.1=some .cell\/D.sc.names.lookup y.1=some .free:=by first | decide +kernel | (dsimp only;decide +kernel) | (dsimp only [cJ,eS];decide +kernel)) (hone:∀ y∈scope.names,y.2=.free->scope.names.lookup y.1=some .free:=by first | decide +kernel | (dsimp only;decide +kernel) | (dsimp only [cJ,eS];decide +kernel))
  (hN:ix.map (fun i=>D.N[i]?)=(N.drop k).map some:=by rfl) (hcap:∀ x∈N.drop k,scope.names.lookup x=some .free:=by first | decide +kernel | (dsimp only;decide +kernel) | (dsimp only [cJ,eS];decide +kernel)) (hlen:N.length=k + ix.length:=by rfl)
  (hs:∀ env x,foldedSetIterable iter env x=pure x:=by intro _ _;rfl) (hl1:D.sc.kind=.function:=by rfl) (hl2:D.sc.names.lookup y=some .local:=by rfl) (hl3:(py.line == pos.line && !(scope.names.any fun (n,k)=>n == y && (k == .local || k == .cell)))=true:=by decide +kernel)
  (hiy:D.N[i]?=some y:=by rfl) (hy:Loc D.sc y:=by first | exact Or.inl rfl | exact Or.inr rfl) (hf:D.fn=true\/D.sc.names.lookup y=some .local:=by first | exact .inl rfl | exact .inr rfl):rO D (.Assign [.Name y py] (.ListComp elt [⟨tg,iter,ifs,0⟩] scope pos) spos) (bJ (uR own k ix wi g tcs te) (hName i)):=by
 obtain ⟨_,p1,s1⟩:=hi;obtain ⟨_,p2,s2,gk,_⟩:=hg;obtain ⟨_,p3,s3⟩:=hif;obtain ⟨_,p4,s4⟩:=he
 have hN':∀ (j:Nat) x,N[k + j]?=some x->∃ i,ix[j]?=some i/\D.N[i]?=some x:=fun j x e=>by
  have e1:((N.drop k).map some)[j]?=some (some x):=by rw [List.getElem?_map,List.getElem?_drop,e];rfl
  rw [<- hN,List.getElem?_map] at e1
  cases q:ix[j]? with
  | none=>rw [q] at e1;cases e1
  | some i=>rw [q] at e1;exact ⟨i,rfl,Option.some.inj e1⟩
 have hcap':∀ (j:Nat) x,N[k + j]?=some x->scope.names.lookup x=some .free:=fun j x e=>hcap x (List.mem_of_getElem? (i:=j) (by rw [List.getElem?_drop];exact e))
 refine ⟨_,fun X h=>Oa (i:=i) (N:=N) (k:=k) (ix:=ix) h.calm (p1 X h) gk hk hcell hnames (fun y hy e=>by show X.env.scope.names.lookup y.1=_\/X.env.scope.names.lookup y.1=_;rw [h.sc];exact hfree y hy e) hone (fun j x e=>by rw [h.N];exact hN' j x e) hcap' hlen
  (fun cl C s H fp=>p2 _ (h.comp N scope cl C s H fp)) (fun cl C s H fp=>p3 _ (h.comp N scope cl C s H fp)) (fun cl C s H fp=>p4 _ (h.comp N scope cl C s H fp)) (hs _) (Mm (by rw [h.sc];exact hl1) (by rw [h.sc];exact hl2) hl3) (by rw [h.N];exact hNd) (by rw [h.N];exact hiy) (by rw [h.sc];exact hy) (by rcases hf with z | z;exact .inl (h.fn z y);exact .inr (by rw [h.sc];exact z)),BC (Eu s1 s2 s3 s4) (w9 i)⟩
end
section
variable {P:Program} {w:World} {K:PySem.W.Frag} {mg:Str->Option Value} {base:Heap}
theorem Cn {H:Hp} {M:aH} {N:List Str} {us:List U} {vs:List V} (r:aM K H M us vs):fI K H M (L2.start N vs) (iC N us):=by
 have hl:=r.length
 refine ⟨by simp [L2.start,iC,hl],fun i u e=>?_⟩
 unfold iC at e
 unfold L2.start
 by_cases hi:i < us.length
 ·rw [List.getElem?_append_left (by simpa using hi),List.getElem?_map] at e
  cases q:us[i]? with
  | none=>rw [q] at e;cases e
  | some u' =>
   rw [q] at e
   cases e
   obtain ⟨v,h1,h2⟩:=r.get q
   exact ⟨v,by rw [List.getElem?_append_left (by rw [List.length_map];omega),List.getElem?_map,h1];rfl,h2⟩
 ·rw [List.getElem?_append_right (by simpa using hi),List.getElem?_replicate] at e
  split at e <;> cases e
theorem N9 {x:Str} {st:Stmt} {f:Addr} {fd:FuncData} {N ps:List Str} {k:Nat} {sp:c8} {t:US} (F:cW K x x st f fd) (S:bC N ps (aT st))
  (len:∀ us M Q,sp us M Q->us.length=ps.length)
  (h:q8 ⟨P,w,K,mg,base,N,aT st,k,true,.none,""⟩ (iQ st) t)
  (q:∀ us M Q,sp us M Q->t { nx:=fun _ M'=>kD Q .non M',rt:=kD Q } (iC N us) M):mD P w K mg base zF (k + 1) f fd ps (lS K sp):=by
 obtain ⟨t0,h1,h2⟩:=h
 refine F.ok S (fun vs H Q E ⟨us,M,Q',_,r,hs,_⟩=>by rw [<- r.length];exact len us M Q' hs) (fun cdv A outer s H vs Q E hr ⟨us,M,Q',rm,r,hs,c⟩=>?_)
 refine ⟨t0,h1 _ ⟨rfl,rfl,rfl,rfl,rfl,rfl,rfl,hr,rfl,rfl,fun _ _=>rfl,fun h=>absurd rfl h⟩,?_⟩
 refine h2 _ (iC N us) H M _ (Cn r) rm (q us M Q' hs) _ ⟨fun σ τ H1 M1 s1 rm1 rs1 q1=>?_,fun u v H1 M1 s1 rm1 ru q1=>kD.ok c s1 rm1 ru q1,fun _ _ _ _ _ _ _ z=>z.elim,fun _ _ _ _ _ _ _ z=>z.elim⟩
 exact kD.ok c s1 rm1 uX q1
theorem IZ {x:Str} {st:Stmt} {f:Addr} {fd:FuncData} {N ps:List Str} {k:Nat} {sp:c8} {t:US} (F:cW K x x st f fd) (hm:mg x=some (.ref f)) (S:bC N ps (aT st))
  (bind:∀ (kV doc pm:Value) (an:Option Addr) (cdv ct:Value) (us:List Value),us.length=ps.length->bindArgs (PySem.W.fnOf x x (kY st) (iQ st) (aT st) .none kV doc pm an cdv ct) ⟨us,[]⟩=pure (ps.zip us))
  (len:∀ us M Q,sp us M Q->us.length=ps.length)
  (h:q8 ⟨P,w,K,mg,base,N,aT st,k,true,.none,""⟩ (iQ st) t)
  (q:∀ us M Q,sp us M Q->t { nx:=fun _ M'=>kD Q .non M',rt:=kD Q } (iC N us) M):Callee P w K mg base (k + 1) x sp []:=by
 obtain ⟨t0,h1,h2⟩:=h
 refine ⟨f,fd,ps,[],[],F.ok S (fun vs H Q E ⟨us,M,Q',_,r,hs,_⟩=>by rw [<- r.length];exact len us M Q' hs) (fun cdv A outer s H vs Q E hr ⟨us,M,Q',rm,r,hs,c⟩=>?_),hm,F.kp,F.binds bind,.nil,fun H M=>.nil⟩
 refine ⟨t0,h1 _ ⟨rfl,rfl,rfl,rfl,rfl,rfl,rfl,hr,rfl,rfl,fun _ _=>rfl,fun h=>absurd rfl h⟩,?_⟩
 refine h2 _ (iC N us) H M _ (Cn r) rm (q us M Q' hs) _ ⟨fun σ τ H1 M1 s1 rm1 rs1 q1=>?_,fun u v H1 M1 s1 rm1 ru q1=>kD.ok c s1 rm1 ru q1,fun _ _ _ _ _ _ _ z=>z.elim,fun _ _ _ _ _ _ _ z=>z.elim⟩
 exact kD.ok c s1 rm1 uX q1
end
end U2
namespace U2
open PySem L2
theorem dP:bN "NoneType" "bool"=some false:=by decide +kernel
theorem dZ:bN "NoneType" "int"=some false:=by decide +kernel
theorem eA:bN "NoneType" "str"=some false:=by decide +kernel
theorem dG:bN "NoneType" "tuple"=some false:=by decide +kernel
theorem dR:bN "NoneType" "list"=some false:=by decide +kernel
theorem dQ:bN "NoneType" "dict"=some false:=by decide +kernel
theorem fZ:bN "bool" "bool"=some true:=by decide +kernel
theorem gT:bN "bool" "int"=some true:=by decide +kernel
theorem gY:bN "bool" "str"=some false:=by decide +kernel
theorem eW:bN "bool" "tuple"=some false:=by decide +kernel
theorem gC:bN "bool" "list"=some false:=by decide +kernel
theorem gA:bN "bool" "dict"=some false:=by decide +kernel
theorem gU:bN "int" "bool"=some false:=by decide +kernel
theorem iJ:bN "int" "int"=some true:=by decide +kernel
theorem iL:bN "int" "str"=some false:=by decide +kernel
theorem fS:bN "int" "tuple"=some false:=by decide +kernel
theorem gZ:bN "int" "list"=some false:=by decide +kernel
theorem gJ:bN "int" "dict"=some false:=by decide +kernel
theorem gS:bN "str" "bool"=some false:=by decide +kernel
theorem iM:bN "str" "int"=some false:=by decide +kernel
theorem iK:bN "str" "str"=some true:=by decide +kernel
theorem fV:bN "str" "tuple"=some false:=by decide +kernel
theorem gR:bN "str" "list"=some false:=by decide +kernel
theorem gQ:bN "str" "dict"=some false:=by decide +kernel
theorem e7:bN "tuple" "bool"=some false:=by decide +kernel
theorem fQ:bN "tuple" "int"=some false:=by decide +kernel
theorem fW:bN "tuple" "str"=some false:=by decide +kernel
theorem eL:bN "tuple" "tuple"=some true:=by decide +kernel
theorem eY:bN "tuple" "list"=some false:=by decide +kernel
theorem eU:bN "tuple" "dict"=some false:=by decide +kernel
theorem fT:bN "list" "bool"=some false:=by decide +kernel
theorem gM:bN "list" "int"=some false:=by decide +kernel
theorem gN:bN "list" "str"=some false:=by decide +kernel
theorem eV:bN "list" "tuple"=some false:=by decide +kernel
theorem gD:bN "list" "list"=some true:=by decide +kernel
theorem fX:bN "list" "dict"=some false:=by decide +kernel
theorem gB:bN "dict" "bool"=some false:=by decide +kernel
theorem gK:bN "dict" "int"=some false:=by decide +kernel
theorem gP:bN "dict" "str"=some false:=by decide +kernel
theorem eX:bN "dict" "tuple"=some false:=by decide +kernel
theorem fR:bN "dict" "list"=some false:=by decide +kernel
theorem fY:bN "dict" "dict"=some true:=by decide +kernel
theorem aS {Q:UK} {u:U} {M:aH} (q:Q u M):kD Q u M:=⟨u,M,Sub.refl M,.inl rfl,q⟩
theorem AA {o:Bool} {k:Nat} {ix:List Nat} {wi:UI} {g:UG} {tc:UT} {te:UE} {τ:SU} {M M1:aH} {Q:UK} {S:Src} (f:U->Option U) (hw:∀ R:Src->aH->Prop,R S M1->wi τ M R) (hz:S.xs.length<=sizeLine) (hs:S.ok M1)
  (h:∀ x∈S.xs,∀ M,Sub M1 M->∀ R:Option U->aH->Prop,R (f x) M->g x (eQ k ix τ) M fun τ2 M2=>tc τ2 M2 fun ok M3=>if ok=true then te τ2 M3 fun y M4=>R (some y) M4 else R none M3)
  (q:jL o (S.xs.filterMap f) M1 Q):uR o k ix wi g tc te τ M Q:=hw _ (KC (wi:=wi) f hz hs h q)
theorem cP {wi:UI} {g:UG} {tb:US} {D:pZ} {τ:SU} {M M1:aH} {S:Src} (hw:∀ R:Src->aH->Prop,R S M1->wi τ M R) (P:Nat->SU->aH->Prop) (h0:P 0 τ M1) (hok:∀ i τ M,P i τ M->S.ok M)
  (turn:∀ i x τ M,S.xs[i]?=some x->P i τ M->g x τ M fun τ2 M2=>tb { D with nx:=P (i + 1),ct:=P (i + 1),bk:=D.nx } τ2 M2) (fin:∀ τ M,P S.xs.length τ M->D.nx τ M):L3 wi g tb D τ M:=hw _ ⟨P,h0,hok,turn,fin⟩
theorem uE {c:UT} {tb:US} {D:pZ} {τ:SU} {M:aH} (P:SU->aH->Prop) (μ:SU->aH->Nat) (h0:P τ M)
  (turn:∀ τ M,P τ M->c τ M fun b M1=>if b=true then tb { D with nx:=fun τ' M'=>P τ' M'/\μ τ' M' < μ τ M,ct:=fun τ' M'=>P τ' M'/\μ τ' M' < μ τ M,bk:=D.nx } τ M1 else D.nx τ M1):EB c tb D τ M:=⟨P,μ,h0,turn⟩
theorem jF {lo:Int} {n i:Nat} {x:U} (h:(cH lo n)[i]?=some x):x=.int (lo + i)/\i < n:=by
 have hi:i < n:=by
  have:=(List.getElem?_eq_some_iff.mp h).1
  simpa [cH] using this
 simp only [cH,List.getElem?_map,List.getElem?_range hi,Option.map_some] at h
 exact ⟨(Option.some.inj h).symm,hi⟩
theorem fJ (lo:Int) (n:Nat):(cH lo n).length=n:=by simp [cH]
end U2
namespace U2
open PySem PySem.Spec PyProof.Rows L2
inductive Fl where
 | int (i:Int) | str (x:Str)
noncomputable def Fl.d:Fl->PyData
 | .int i=>.int i
 | .str x=>.str x
noncomputable def Fl.u:Fl->U
 | .int i=>.int i
 | .str x=>.str x
noncomputable def MU (T:List (Str × Fl)):List (PyData × PyData):=T.map fun p=>(PyData.str p.1,p.2.d)
noncomputable def e8:List (Str × Fl)->Str->Option Fl
 | [],_=>none
 | (a,b) :: r,z=>if a=z then some b else e8 r z
structure AW (P:Program) (w:World) (K:PySem.W.Frag) (d:Addr) (T:List (Str × Fl)):Prop where
 at_:∀ h:Heap,K.In h->StrTab P w h d (MU T)
theorem Sv (a b:Str):same (.str a) (.str b)=decide (a=b):=by
 by_cases h:a=b <;> simp [same,h]
theorem lookup_tab:∀ (T:List (Str × Fl)) (z:Str),PySem.Spec.lookup (.str z) (MU T)=(e8 T z).map Fl.d
 | [],_=>rfl
 | (a,b) :: r,z=>by
  have ih:=lookup_tab r z
  show (if same (.str a) (.str z)=true then some b.d else PySem.Spec.lookup (.str z) (MU r))=((if a=z then some b else e8 r z).map Fl.d)
  rw [Sv]
  by_cases e:a=z
  ·rw [if_pos (decide_eq_true e),if_pos e];rfl
  ·rw [if_neg (by simpa using e),if_neg e,ih]
noncomputable def BL (T:List (Str × Fl)):List (Str × PyData):=T.map fun p=>(p.1,p.2.d)
theorem tab_of {P:Program} {w:World} {K:PySem.W.Frag} {d:Addr} {T:List (Str × Fl)} (n:((BL T).map (·.1)).Nodup) (e:KTD.tabLook KTD.flatLooks (fun b=>K.lookup b) d (BL T)=true) (q:KTD.hashesOf (fun b=>K.lookup b) d=(BL T).map fun p=>(PySem.strKind P w).hash p.1):AW P w K d T:=⟨fun h hK=>by
 have:=PySem.W.kt_tab_in P w hK e n q
 unfold BL at this
 rw [List.map_map] at this
 exact this⟩
section
variable {X:Cx} {d:Addr} {T:List (Str × Fl)}
theorem M9 (t:AW X.prog X.w X.K d T):fE X (compareOp .In) (fun x y H Q=>∃ z,x=.str z/\y=.ref d/\Q (.bl (e8 T z).isSome) H):=by
 intro pins s σ H x y v u Q I rx ry h
 obtain ⟨z,rfl,rfl,q⟩:=h
 obtain ⟨tk,rfl⟩:=rx
 cases ry
 refine in_strTab (t.at_ _ I.kIn) ?_
 rw [lookup_tab,Option.isSome_map]
 exact ⟨.bl _,H,I.tok _,rfl,q⟩
end
section
variable {D:Dat} {d:Addr} {T:List (Str × Fl)}
noncomputable abbrev Tab (D:Dat):=AW D.prog D.w D.K
noncomputable def p5 (d:Addr) (T:List (Str × Fl)) (neg:Bool):fF:=fun x y M Q=>match x with
 | .str z=>y=.ref d/\Q (.bl (if neg then !(e8 T z).isSome else (e8 T z).isSome)) M
 | _=>False
theorem NU (t:Tab D d T):t6 D .In (p5 d T false):=⟨⟨_,fun X h=>M9 (by rw [h.prog,h.w,h.K];exact t),fun x y u w H M Q' rm ru rw h Q c=>by
 cases u with
 | str z=>obtain ⟨rfl,h⟩:=h;exact ⟨z,ru.str,rw.ref,c.here rm iR h⟩
 | _=>exact h.elim⟩⟩
noncomputable def rD (d:Addr) (T:List (Str × Fl)):fF:=fun x y M Q=>match y with
 | .str z=>x=.ref d/\match e8 T z with
  | some f=>Q f.u M
  | none=>False
 | _=>False
noncomputable def oR (i:Nat) (f:Addr) (sp:c8) (t:UA):UE:=fun τ M Q=>pA i τ M fun v M1=>v=.ref f/\t τ M1 fun us M2=>sp us M2 Q
end
end U2
namespace U2
open PySem PySem.Spec PyProof.Rows L2
noncomputable def half (j:Int):Nat:=((j + 1) / 2).toNat
theorem Tb {j:Int} (h:0<=j):Builtin.Range.rangeSize 0 j 2=(half j:Nat):=by
 unfold Builtin.Range.rangeSize half
 simp only [show (2:Int) > 0 by decide,if_true]
 split <;> omega
noncomputable def Gb (n:Nat):List U:=(List.range n).map fun (k:Nat)=>U.int ((k:Int) * 2)
theorem R1 (n:Nat):(Gb n).length=n:=by simp [Gb]
end U2
namespace U2
open PySem PySem.Spec PyProof.Rows L2
noncomputable def C5:List U->Option (List Str)
 | []=>some []
 | .str b :: r=>(C5 r).map (b :: ·)
 | _=>none
theorem Kv {K:PySem.W.Frag} {H:Hp} {M:aH}:∀ {us:List U} {vs:List V} {bs:List Str},aM K H M us vs->C5 us=some bs->vs=bs.map V.str
 | [],_,_,r,h=>by cases h;exact r.inv_nil
 | u :: us,_,bs,r,h=>by
  obtain ⟨v,vs',rfl,a,b⟩:=r.inv_cons
  cases u with
  | str y =>
   simp only [C5] at h
   cases e:C5 us with
   | none=>rw [e] at h;cases h
   | some cs =>
    rw [e] at h
    cases h
    rw [Kv b e,a.str];rfl
  | _=>cases h
end U2
namespace U2
open PySem L2
theorem zA {α:Type} {a:α} {r:List α}:cK (a :: r) 0=some a:=fP (j:=0) rfl
theorem Ay {α:Type} {a b:α} {r:List α}:cK (a :: b :: r) 1=some b:=fP (j:=1) rfl
theorem at2 {α:Type} {a b c:α} {r:List α}:cK (a :: b :: c :: r) 2=some c:=fP (j:=2) rfl
theorem Cf {α:Type} {a b c d:α} {r:List α}:cK (a :: b :: c :: d :: r) 3=some d:=fP (j:=3) rfl
theorem kS {α:Type} (l:List α) (i:Int) (h0:0<=i) (h1:i < l.length):∃ c,cK l i=some c:=by
 have hl:i.toNat < l.length:=by omega
 refine ⟨l[i.toNat],?_⟩
 have e:((i.toNat:Nat):Int)=i:=by omega
 have q:=fP (xs:=l) (j:=i.toNat) (v:=l[i.toNat]) (by simp [hl])
 rw [e] at q
 exact q
theorem xC {α:Type} (l:List α) (a:α):cK (l++[a]) (-1)=some a:=DE l a
theorem Qd {α:Type} (l:List α) (a b:α):cK (l++[a,b]) (-2)=some a:=by
 have e:(l++[a,b]).length=l.length + 2:=by simp
 unfold cK oV
 rw [e]
 rw [if_neg (by decide),if_pos (by omega)]
 have h:((-2:Int) + ((l.length + 2:Nat):Int)).toNat=l.length:=by omega
 rw [h]
 simp
theorem Rz {α:Type} (l:List α) (a b:α):cK (l++[a,b]) (-1)=some b:=by
 have:=DE (l++[a]) b
 rw [List.append_assoc] at this
 exact this
theorem Te {α:Type} (l:List α) (a b:α):(l++[a,b]).getLast?=some b:=by simp
theorem Tf {α:Type} (l:List α) (a b:α):(l++[a,b]).dropLast=l++[a]:=by
 rw [show l++[a,b]=(l++[a])++[b] by simp];exact List.dropLast_concat
theorem Iz {α:Type} (l:List α) (a:α):(l++[a]).getLast?=some a:=by simp
theorem GZ {α:Type} (l:List α) (a:α):(l++[a]).dropLast=l:=List.dropLast_concat
theorem xQ {α:Type} (a:α) (r:List α):iB (a :: r) (some 1) none=r:=by
 unfold iB
 simp [HT.bW]
 try omega
theorem oQ {M:aH}:view M .non=.non:=rfl
theorem jM {M:aH} {x:Bool}:view M (.bl x)=.bl x:=rfl
theorem oZ {M:aH} {x:Int}:view M (.int x)=.int x:=rfl
theorem o4 {M:aH} {x:Str}:view M (.str x)=.str x:=rfl
theorem oW {M:aH} {x:List U}:view M (.tup x)=.tup x:=rfl
theorem lW {M:aH} {x:List U}:view M (.lst x)=.lst x:=rfl
theorem mS {M:aH} {p:Addr} {us:List U}:view (mup M p (.lst us)) (.ref p)=.lst us:=gF aI
theorem eN {M:aH} {p:Addr} {us:List U}:FT (mup M p (.lst us)) (.ref p):=⟨us,mS⟩
theorem eI {o:Bool} {k:Nat} {ix:List Nat} {wi:UI} {g:UG} {te:UE} {τ:SU} {M M1:aH} {Q:UK} {S:Src} (zs:List U) (hw:∀ R:Src->aH->Prop,R S M1->wi τ M R) (hl:zs.length=S.xs.length) (hz:S.xs.length<=sizeLine) (hs:S.ok M1)
  (h:∀ (i:Nat) x y,S.xs[i]?=some x->zs[i]?=some y->∀ M,Sub M1 M->∀ R:UK,R y M->g x (eQ k ix τ) M fun τ2 M2=>te τ2 M2 R)
  (q:jL o zs M1 Q):uR o k ix wi g (fun _ M Q=>Q true M) te τ M Q:=by
 refine hw _ ⟨hz,fun D hD=>⟨fun i ys M=>ys=zs.take i/\M=mup M1 D (.lst ys)/\i<=S.xs.length,⟨by simp,rfl,Nat.zero_le _⟩,?_,?_,?_⟩⟩
 ·rintro i ys M ⟨rfl,rfl,hi⟩
  refine ⟨fun a e=>?_,aI,?_⟩
  ·have:=hs a e
   rw [aK (fun z=>by subst z;rw [hD] at this;cases this)]
   exact this
  ·rw [List.length_take];omega
 ·rintro i x ys M e ⟨rfl,rfl,hi⟩
  have hlt:i < S.xs.length:=(List.getElem?_eq_some_iff.mp e).1
  have hy:zs[i]?=some zs[i]:=by simp [show i < zs.length by omega]
  have tk:zs.take (i + 1)=zs.take i++[zs[i]]:=by rw [List.take_add_one,hy];rfl
  refine h i x zs[i] e hy (mup M1 D (.lst (zs.take i))) ((Sub.refl M1).mup hD) (fun y M4=>M4 D=some (.lst (zs.take i))/\(zs.take i++[y]=zs.take (i + 1)/\mup M4 D (.lst (zs.take i++[y]))=mup M1 D (.lst (zs.take i++[y]))/\i + 1<=S.xs.length)) ?_
  exact ⟨aI,tk.symm,gG,hlt⟩
 ·rintro ys M ⟨rfl,rfl,hi⟩
  rw [show zs.take S.xs.length=zs by rw [<- hl];exact List.take_length]
  cases o with
  | true=>exact q D hD
  | false=>exact ⟨M1,(Sub.refl M1).mup hD,hD,q⟩
end U2
namespace U2
open PySem PySem.Spec PyProof.Rows L2
section
variable {prog:Program} {w:World} {A:Around} {E:Value->Shared->Prop} {s:Shared}
theorem yT {it t:Addr} {i:Nat} {items} {x:Value} {Q:Value->Shared->Prop} (hit:s.heap.IsTupleIter it t i)
  (ht:s.heap.IsTuple t items) (hx:items[i]?=some x)
  (hQ:∀ h',h'.IsTupleIter it t (i + 1)->Heap.SameBut it s.heap h'->Q x { s with heap:=h' }) :
  wpAny (model prog w) A (Builtin.SmallTypes.nextOf (.ref it)) Q E s:=by
 obtain ⟨o,ho,hc,hd⟩:=id hit
 obtain ⟨ol,hol,_,nl,hdl⟩:=ht
 unfold Builtin.SmallTypes.nextOf
 refine wpAny_bind (wpAny_callSpecial?_slot (name:=Str.ofString "__next__") hit.typeIs PySem.F.slot_tuple_iterator_next
  (wpAny_call_entry PySem.F.slot_tuple_iterator_next hit.typeIs PySem.F.entry_tuple_iterator_next ?_ (PySem.F.args_tuple_iterator_next_1 _)))
 show wpAny _ _ (field (.ref it) 0 >>= _) _ _ s
 refine wpAny_bind (wpAny_field ho hd (x:=.ref t) rfl ?_)
 show wpAny _ _ (if (Value.ref t == Value.none)=true then _ else _) _ _ s
 rw [if_neg (show ¬ ((Value.ref t == Value.none)=true) from Bool.false_ne_true)]
 show wpAny _ _ (field (.ref it) 1 >>= _) _ _ s
 refine wpAny_bind (wpAny_field ho hd (x:=.int i 0) rfl ?_)
 show wpAny _ _ (seqItems? (.ref t) >>= _) _ _ s
 refine wpAny_bind (wpAny_seqItems hol hdl ?_)
 simp only [Int.toNat_natCast,hx]
 refine wpAny_bind (wpAny_setField ho hd (by simp) (wpAny_pure ⟨x,rfl,wpAny_pure (hQ _ ?_ (Heap.SameBut.update ..))⟩))
 exact ⟨_,Heap.get?_update_self _ ho (Obj.isFreed_of_fields (Obj.data_mapFields hd _)),(Obj.cls_mapFields ..).trans hc,by
  rw [Obj.data_mapFields hd];simp [rawInt]⟩
theorem zW {it t:Addr} {i:Nat} {items} {Q:Value->Shared->Prop} (hh:A.handled=none)
  (hit:s.heap.IsTupleIter it t i) (ht:s.heap.IsTuple t items) (hx:items[i]?=none)
  (hE:∀ h' e,Heap.ExtBut it s.heap h'->(∃ o,h'.get? e=some o/\o.cls=.type "StopIteration")->E (.ref e) { s with heap:=h' }) :
  wpAny (model prog w) A (Builtin.SmallTypes.nextOf (.ref it)) Q E s:=by
 obtain ⟨o,ho,hc,hd⟩:=id hit
 obtain ⟨ol,hol,_,nl,hdl⟩:=ht
 unfold Builtin.SmallTypes.nextOf
 refine wpAny_bind (wpAny_callSpecial?_slot (name:=Str.ofString "__next__") hit.typeIs PySem.F.slot_tuple_iterator_next
  (wpAny_call_entry PySem.F.slot_tuple_iterator_next hit.typeIs PySem.F.entry_tuple_iterator_next ?_ (PySem.F.args_tuple_iterator_next_1 _)))
 show wpAny _ _ (field (.ref it) 0 >>= _) _ _ s
 refine wpAny_bind (wpAny_field ho hd (x:=.ref t) rfl ?_)
 show wpAny _ _ (if (Value.ref t == Value.none)=true then _ else _) _ _ s
 rw [if_neg (show ¬ ((Value.ref t == Value.none)=true) from Bool.false_ne_true)]
 show wpAny _ _ (field (.ref it) 1 >>= _) _ _ s
 refine wpAny_bind (wpAny_field ho hd (x:=.int i 0) rfl ?_)
 show wpAny _ _ (seqItems? (.ref t) >>= _) _ _ s
 refine wpAny_bind (wpAny_seqItems hol hdl ?_)
 simp only [Int.toNat_natCast,hx]
 refine wpAny_bind (wpAny_rule (wpAny_bind (wpAny_setField ho hd (by simp) ?_)))
 show wpAny _ _ (newExc (.type "StopIteration") [] >>= _) _ _ _
 refine wpAny_bind ?_
 simp only [newExc,newTuple]
 refine wpAny_bind (wpAny_newObj_type ?_ (by size_fits))
 refine wpAny_bind (m:=firstArgMember _ _) (wpAny_of_eq (a:=Value.none) (by first | rfl | (simp only [firstArgMember];rfl)) ?_)
 refine wpAny_newObj_type ?_ (by size_fits)
 simp only [raiseNew]
 refine wpAny_bind (wpAny_handled ?_)
 first | rw [show A.in1.handled=none from hh] | rw [hh]
 refine wpAny_bind (wpAny_pure (wpAny_throw ?_))
 exact hE _ _ (((Heap.SameBut.update ..).extBut.push _).push _) ⟨_,Heap.get?_push_size _ rfl,rfl⟩
theorem Fu {prog:Program} {w:World} {A:Around} (hh:A.handled=none) (it l:Addr) (hne:l≠it) (items:Array Value) :
  Draws prog w A it [it,l] items.size (fun i v=>items[i]?=some v) (fun i h=>h.IsTupleIter it l i/\h.IsTuple l items) where
 live:=fun _ _ st=>let ⟨o,ho,_⟩:=st.1;⟨o,ho⟩
 frame:=fun _ _ _ st hk=>⟨st.1.at fun o e=>hk it (by simp) o e,let ⟨o,ho,r⟩:=st.2;⟨o,hk l (by simp) o ho,r⟩⟩
 item:=fun i s Q E hi st hQ=>by
  refine yT st.1 st.2 (x:=items[i]) (by simp [hi]) fun h' hit' hs'=>?_
  exact hQ _ h' s.toks (by simp [hi]) ⟨hit',let ⟨o,ho,r⟩:=st.2;⟨o,hs'.extBut l o hne ho,r⟩⟩ hs'
 done:=fun s Q E st hE=>zW hh st.1 st.2 (by simp) hE
end
noncomputable def pJ (b:Bool) (K:PySem.W.Frag) (H:Hp) (a:Addr) (xs:List V):Prop:=match b with
 | true=>eT K H a xs
 | false=>iO K H a xs
noncomputable def lF (b:Bool) (h:Heap) (a:Addr) (xs:Array Value):Prop:=match b with
 | true=>h.IsList a xs
 | false=>h.IsTuple a xs
noncomputable def mX (b:Bool) (h:Heap) (it a:Addr) (i:Nat):Prop:=match b with
 | true=>h.IsListIter it a i
 | false=>h.IsTupleIter it a i
noncomputable def S3:Bool->String
 | true=>"list"
 | false=>"tuple"
noncomputable def wB:Bool->String
 | true=>"list_iterator"
 | false=>"tuple_iterator"
theorem lN {h:Heap} {b b':Addr} {o o':Obj} {n n':String} (x:h.get? b=some o) (y:h.get? b'=some o') (p:o.cls=.type n) (q:o'.cls=.type n') (ne:n≠n'):b≠b':=fun z=>by
 subst z;rw [x] at y;cases y;rw [p] at q;exact ne (Value.type.inj q)
theorem lF.obj {b:Bool} {h:Heap} {a:Addr} {xs:Array Value} (p:lF b h a xs):∃ o n,h.get? a=some o/\o.cls=.type (S3 b)/\o.data=.seq xs n:=by
 cases b <;> (obtain ⟨o,e,c,n,d⟩:=p;exact ⟨o,n,e,c,d⟩)
theorem mX.obj {b:Bool} {h:Heap} {it a:Addr} {i:Nat} (p:mX b h it a i):∃ o,h.get? it=some o/\o.cls=.type (wB b)/\o.data=.fields #[.ref a,.int i 0]:=by
 cases b <;> exact p
theorem mX.of {b:Bool} {h:Heap} {it a:Addr} {i:Nat} {o:Obj} (e:h.get? it=some o) (c:o.cls=.type (wB b)) (d:o.data=.fields #[.ref a,.int i 0]):mX b h it a i:=by
 cases b <;> exact ⟨o,e,c,d⟩
theorem mX.at {b:Bool} {h h':Heap} {it a:Addr} {i:Nat} (p:mX b h it a i) (k:∀ o,h.get? it=some o->h'.get? it=some o):mX b h' it a i :=
 let ⟨o,e,c,d⟩:=p.obj;.of (k o e) c d
theorem lF.ne {b b':Bool} {h:Heap} {a it c:Addr} {xs:Array Value} {i:Nat} (p:lF b h a xs) (q:mX b' h it c i):a≠it :=
 let ⟨_,_,e,c,_⟩:=p.obj;let ⟨_,e',c',_⟩:=q.obj;lN e e' c c' (by cases b <;> cases b' <;> decide)
theorem AB {X:Cx} {pins:List (Addr × Obj)} {σ:L2.St} {H:Hp} {s:Shared} {b:Bool} {a:Addr} {xs:List V} (I:L2.Inv X pins σ H s) (h:pJ b X.K H a xs):∃ its:List Value,Vals xs its/\lF b s.heap a its.toArray/\xs.length<=sizeLine:=by
 cases b
 ·exact I.tuple h
 ·obtain ⟨its,r,p,z⟩:=I.list h;exact ⟨its,r,p.isList,z⟩
theorem P9 {X:Cx} {pins:List (Addr × Obj)} {σ:L2.St} {H:Hp} {s:Shared} {b:Bool} {a:Addr} {xs ys:List V} (I:L2.Inv X pins σ H s) (h:pJ b X.K H a xs) (h':pJ b X.K H a ys):xs=ys:=by
 cases b
 ·exact I.tuple_inj h h'
 ·exact I.list_inj h h'
theorem qB {prog:Program} {w:World} {A:Around} (b:Bool) (hh:A.handled=none) (it l:Addr) (hne:l≠it) (items:Array Value) :
  Draws prog w A it [it,l] items.size (fun i v=>items[i]?=some v) (fun i h=>mX b h it l i/\lF b h l items):=by
 cases b
 ·exact Fu hh it l hne items
 ·exact Draws.list hh it l hne items
noncomputable def Kj (b:Bool) (K:PySem.W.Frag) (H:Hp) (M:aH) (a:Addr) (vs:List V):Prop:=∀ H1 M1,bA H M H1 M1->pJ b K H1 a vs
theorem KO {K:PySem.W.Frag} {H:Hp} {M:aH} {a:Addr} {vs:List V} (m:M a=none/\H a=some (.tup vs)):Kj false K H M a vs:=fun _ _ s=>.inl (.inl (s.to m.2 m.1).1)
theorem J9 {K:PySem.W.Frag} {H:Hp} {M:aH} {a:Addr} {vs:List V} (m:(M a=none/\Rd H a (.lst vs))\/KL K a vs):Kj true K H M a vs:=fun _ _ s=>by
 rcases m with ⟨m,h⟩ | k
 ·exact .inl (Rd.stp s m h).2
 ·exact .inr k
section
variable {prog:Program} {w:World} {A:Around} {E:Value->Shared->Prop} {s:Shared}
theorem Ai (l:Addr) (items:Array Value) (n:Nat) (dd:Option Addr) (sl:Array (Option Value)) :
  Meets (Builtin.«enumerate.__new__» ⟨[.type "enumerate",.ref l],[]⟩) (fun _ R s=>s.heap.get? l=some { cls:=.type "tuple",dict:=dd,data:=.seq items n,slots:=sl } /\
   R (.ok (.ret (.ref (s.heap.push { cls:=.type "tuple_iterator",data:=.fields #[.ref l,.int 0 0] }).objs.size)))
    { s with heap:=(s.heap.push { cls:=.type "tuple_iterator",data:=.fields #[.ref l,.int 0 0] }).push { cls:=.type "enumerate",data:=.fields #[.none,.bool false,.ref s.heap.objs.size,rawInt 0,.none,.none] } }) :=
 .of_wp fun prog w A R s h=>by
  obtain ⟨hp,g,d,tk,os⟩:=s;obtain ⟨hl,h⟩:=h
  have hsub:=PySem.sub_enumerate
  have hL:Heap.IsTuple (Shared.heap ⟨hp,g,d,tk,os⟩) l items:=⟨_,hl,rfl,n,rfl⟩
  wp_walk using wpAny_loadPart' hl
  refine wpAny_stack_any fun st=>wpAny_pure ?_
  split
  ·rename_i c _ _ _ _ _
   cases (c == Value.type "enumerate")
   ·wp_walk using wpAny_loadPart' hl,wpAny_pyIter_tuple hL
    exact ⟨_,rfl,h⟩
   ·wp_walk using wpAny_loadPart' hl,wpAny_pyIter_tuple hL
    exact ⟨_,rfl,h⟩
  ·wp_walk using wpAny_loadPart' hl,wpAny_pyIter_tuple hL
   exact ⟨_,rfl,h⟩
theorem AU (l:Addr) (items:Array Value) (n:Nat) (dd:Option Addr) (sl:Array (Option Value)) :
  Meets (Builtin.«enumerate.__new__» ⟨[.type "enumerate",.ref l],[]⟩) (fun _ R s=>s.heap.get? l=some { cls:=.type "list",dict:=dd,data:=.seq items n,slots:=sl } /\
   R (.ok (.ret (.ref (s.heap.push { cls:=.type "list_iterator",data:=.fields #[.ref l,.int 0 0] }).objs.size)))
    { s with heap:=(s.heap.push { cls:=.type "list_iterator",data:=.fields #[.ref l,.int 0 0] }).push { cls:=.type "enumerate",data:=.fields #[.none,.bool false,.ref s.heap.objs.size,rawInt 0,.none,.none] } }) :=
 .of_wp fun prog w A R s h=>by
  obtain ⟨hp,g,d,tk,os⟩:=s;obtain ⟨hl,h⟩:=h
  have hsub:=PySem.sub_enumerate
  have hL:Heap.IsList (Shared.heap ⟨hp,g,d,tk,os⟩) l items:=⟨_,hl,rfl,n,rfl⟩
  wp_walk using wpAny_loadPart' hl
  refine wpAny_stack_any fun st=>wpAny_pure ?_
  split
  ·rename_i c _ _ _ _ _
   cases (c == Value.type "enumerate")
   ·wp_walk using wpAny_loadPart' hl,wpAny_pyIter_list hL
    exact ⟨_,rfl,h⟩
   ·wp_walk using wpAny_loadPart' hl,wpAny_pyIter_list hL
    exact ⟨_,rfl,h⟩
  ·wp_walk using wpAny_loadPart' hl,wpAny_pyIter_list hL
   exact ⟨_,rfl,h⟩
end
theorem nQ {X:Cx} {pins:List (Addr × Obj)} {σ:L2.St} {H:Hp} {s:Shared} {h':Heap} {ch:List Addr} {T:Addr} {o:HO} {tk:Nat} (I:L2.Inv X pins σ H s) (hf:∀ b∈ch,t9 X pins H b)
  (k:∀ b o,b ∉ ch->s.heap.get? b=some o->h'.get? b=some o) (hT:s.heap.objs.size<=T) (new:c6 X.prog X.w (upd H T o) h' T o):L2.Inv X pins σ (upd H T o) { s with heap:=h',toks:=tk }:=by
 have hn:H T=none:=I.hok.fresh hT
 refine I.call' (ch:=ch) (H':=upd H T o) rfl ⟨fun b u q n hb hx=>k b u hx q,fun b u q n hb hx=>⟨u.slots,k b u hx q⟩,fun b u q n hx=>?_,fun b u q hx=>⟨u,k b u hx q⟩,fun b xs q=>by rw [cF (dM q hn)];exact q,fun b u xs q=>by rw [cF (dM q hn)];exact q,
  fun b ps q=>⟨#[],by rw [cF (dM q hn),q];simp⟩⟩ (fun a u e=>?_) I.bare fun b hb=>⟨(hf b hb).2.2.2.1,(hf b hb).2.1,(hf b hb).2.2.2.2.1,(hf b hb).2.2.2.2.2⟩
 ·rw [cF (Nat.ne_of_lt (Nat.lt_of_lt_of_le (Heap.lt_size q) hT))];exact n
 ·by_cases ha:a=T
  ·subst ha;rw [c5] at e;cases e;exact new
  ·rw [cF ha] at e
   refine (I.hok a u e).stay (fun b z hb q=>k b z (fun hc=>?_) q) (fun c q=>by rw [cF (dM q hn)];exact q) fun c xs q=>by rw [cF (dM q hn)];exact q
   have hnone:=(hf b hc).1
   rcases hb with rfl | hb
   ·rw [hnone] at e;cases e
   ·rw [hnone] at hb;cases hb
noncomputable def Q8 (f:Bool) (K:PySem.W.Frag) (a:Addr):It :=
 ⟨fun i H=>∃ xs x,pJ f K H a xs/\xs[i]?=some x,fun i H x H'=>∃ p v,(∀ xs,pJ f K H a xs->xs[i]?=some v)/\H p=none/\x=.ref p/\H'=upd H p (.tup [.int i,v]),fun i H=>∃ xs,pJ f K H a xs/\xs.length=i⟩
theorem KD {P:Program} {w:World} {K:PySem.W.Frag} {elts:List Expr} {kk:Nat} {pos:Pos} (f:Bool) (a it e:Addr):Turn P w K (.Tuple elts kk pos) (Q8 f K a) [e,it] e (fun i h=>(∃ old,IsEnum h e it i old)/\mX f h it a i) where
 mem:=by simp
 obj:=fun i h st b hb=>by
  obtain ⟨⟨old,he⟩,hi⟩:=st
  obtain ⟨o,ho,hc,hd⟩:=hi.obj
  have:b=e\/b=it:=by simpa using hb
  rcases this with rfl | rfl
  ·exact ⟨_,he,fun v z=>by
    have z':Data.fields _=Data.cell v:=z
    cases z'⟩
  ·exact ⟨o,ho,fun v z=>by rw [hd] at z;cases z⟩
 keep:=fun i h h' st k=>let ⟨⟨old,he⟩,hi⟩:=st;⟨⟨old,k e (by simp) _ he⟩,hi.at fun o q=>k it (by simp) o q⟩
 item:=by
  intro X hP hw hK hc i pins s σ H E I hf st hg
  subst hP hw hK
  obtain ⟨⟨old,he⟩,hit⟩:=st
  obtain ⟨xs,x,hq,hx⟩:=hg
  obtain ⟨its,rv,p,hz⟩:=AB I hq
  obtain ⟨u,hu,ru⟩:=rv.get hx
  have p':lF f s.heap a its.toArray:=p
  obtain ⟨oi,hoi,hci,hdi⟩:=hit.obj
  obtain ⟨oa,na,hoa,hca,hda⟩:=p'.obj
  have n1:a≠it:=p'.ne hit
  have n2:e≠it:=lN he hoi rfl hci (by cases f <;> decide)
  have n3:e≠a:=lN he hoa rfl hca (by cases f <;> decide)
  have W:=WalksT.enumerateD (prog:=X.prog) (w:=X.w) (A:=X.A) (qB f (A:=X.A.in1) (show X.A.in1.handled=none from I.ok.hd hc) it a n1 its.toArray) e n2 (by simp [n2,n3]) (by simp)
  have hlt:i < its.toArray.size:=by
   have:=(List.getElem?_eq_some_iff.mp hu).1
   simpa using this
  refine W.item i s _ E hlt ⟨⟨old,he⟩,hit,p'⟩ fun T vals h' tk hP hT bV hMid hk=>?_
  refine ⟨.ref T,rfl,W.go elts kk pos i T _ _ E hMid fun h'' hSt hk2=>?_⟩
  obtain ⟨t,y,hy,rfl⟩:=hP
  have hy':y=u:=by
   have h3:its[i]?=some y:=by simpa using hy
   rw [hu] at h3;exact (Option.some.inj h3).symm
  subst hy'
  have hTT:h''.IsTuple T #[.int i t,y]:=let ⟨o,ho,r⟩:=bV;⟨o,hk2 T o (W.apart i T _ hMid) ho,r⟩
  refine ⟨.ref T,upd H T (.tup [.int i,x]),nQ (s:=s) (h':=h'') (tk:=tk) (ch:=[e,it]) I hf (fun b o hb q=>hk2 b o (by simpa using hb) (hk b o (by simpa using hb) q)) hT ⟨by show 2<=sizeLine;decide,[.int i t,y],.cons ⟨t,rfl⟩ (.cons ru .nil),hTT⟩,rfl,⟨T,x,fun ys hy=>by rw [<- P9 I hq hy];exact hx,I.hok.fresh hT,rfl,rfl⟩,⟨by simpa using hSt.1,hSt.2.1⟩,fun b hb=>?_⟩
  have hn:=(hf b hb).1
  rw [cF (Nat.ne_of_lt (Nat.lt_of_lt_of_le ?_ hT))]
  ·exact hn
  ·have:b=e\/b=it:=by simpa using hb
   rcases this with rfl | rfl
   ·exact Heap.lt_size he
   ·exact Heap.lt_size hoi
 done:=by
  intro X hP hw hK hc i pins s σ H E I hf st hg
  subst hP hw hK
  obtain ⟨⟨old,he⟩,hit⟩:=st
  obtain ⟨xs,hq,hx⟩:=hg
  obtain ⟨its,rv,p,hz⟩:=AB I hq
  have p':lF f s.heap a its.toArray:=p
  obtain ⟨oi,hoi,hci,hdi⟩:=hit.obj
  obtain ⟨oa,na,hoa,hca,hda⟩:=p'.obj
  have n1:a≠it:=p'.ne hit
  have n2:e≠it:=lN he hoi rfl hci (by cases f <;> decide)
  have n3:e≠a:=lN he hoa rfl hca (by cases f <;> decide)
  have W:=WalksT.enumerateD (prog:=X.prog) (w:=X.w) (A:=X.A) (qB f (A:=X.A.in1) (show X.A.in1.handled=none from I.ok.hd hc) it a n1 its.toArray) e n2 (by simp [n2,n3]) (by simp)
  have hi:i=its.toArray.size:=by rw [List.size_toArray,<- rv.length];exact hx.symm
  subst hi
  refine W.done s _ E ⟨⟨old,he⟩,hit,p'⟩ fun h' tk hk=>⟨rfl,?_⟩
  have:=I.call' (ch:=[e,it]) (H':=H) (s':={ s with heap:=h',toks:=tk }) rfl ⟨fun b u q n hb hx=>hk b u (by simpa using hx) q,fun b u q n hb hx=>⟨u.slots,hk b u (by simpa using hx) q⟩,fun b u q n hx=>n,fun b u q hx=>⟨u,hk b u (by simpa using hx) q⟩,fun b xs q=>q,fun b u xs q=>q,fun b ps q=>⟨#[],by rw [q];simp⟩⟩
   (fun a u e'=>?_) I.bare fun b hb=>⟨(hf b hb).2.2.2.1,(hf b hb).2.1,(hf b hb).2.2.2.2.1,(hf b hb).2.2.2.2.2⟩
  ·exact this
  ·refine (I.hok a u e').stay (fun b z hb q=>hk b z (fun hc=>?_) q) (fun _ q=>q) fun _ _ q=>q
   have hnone:=(hf b (by simpa using hc)).1
   rcases hb with rfl | hb
   ·rw [hnone] at e';cases e'
   ·rw [hnone] at hb;cases hb
 self:=fun _ _ _ _ _ st h=>let ⟨⟨old,he⟩,_⟩:=st;wpAny_pyIter_enum he h
theorem Ht {prog:Program} {w:World} {A:Around} {E:Value->Shared->Prop} {s:Shared} {f:Bool} {l:Addr} {items:Array Value} {Q:Value->Shared->Prop}
  (hl:lF f s.heap l items)
  (h:∀ h',IsEnum h' (s.heap.objs.size + 1) s.heap.objs.size 0 .none->mX f h' s.heap.objs.size l 0->h'.objs.size=s.heap.objs.size + 2 ->
   (∀ b o,s.heap.get? b=some o->h'.get? b=some o)->Q (.ref (s.heap.objs.size + 1)) { s with heap:=h' }) :
  wpAny (model prog w) A (call (.type "enumerate") [.ref l]) Q E s:=by
 have fin:Q (.ref (s.heap.push { cls:=.type (wB f),data:=.fields #[.ref l,.int 0 0] }).objs.size)
   { s with heap:=(s.heap.push { cls:=.type (wB f),data:=.fields #[.ref l,.int 0 0] }).push { cls:=.type "enumerate",data:=.fields #[.none,.bool false,.ref s.heap.objs.size,rawInt 0,.none,.none] } } /\
   ((s.heap.push { cls:=.type (wB f),data:=.fields #[.ref l,.int 0 0] }).push { cls:=.type "enumerate",data:=.fields #[.none,.bool false,.ref s.heap.objs.size,rawInt 0,.none,.none] }).get? (s.heap.push { cls:=.type (wB f),data:=.fields #[.ref l,.int 0 0] }).objs.size=some { cls:=.type "enumerate",data:=.fields #[.none,.bool false,.ref s.heap.objs.size,rawInt 0,.none,.none] }:=by
  have hz:(s.heap.push { cls:=.type (wB f),data:=.fields #[.ref l,.int 0 0] }).objs.size=s.heap.objs.size + 1:=Heap.size_push ..
  have he:=Heap.get?_push_size (s.heap.push { cls:=.type (wB f),data:=.fields #[.ref l,.int 0 0] })
   (o:={ cls:=.type "enumerate",data:=.fields #[.none,.bool false,.ref s.heap.objs.size,rawInt 0,.none,.none] }) rfl
  refine ⟨?_,he⟩
  rw [hz] at he
  rw [hz]
  exact h _ he (.of (Heap.get?_push_of_some _ (Heap.get?_push_size _ rfl)) rfl rfl) (by rw [Heap.size_push,hz]) fun b o x=>Heap.get?_push_of_some _ (Heap.get?_push_of_some _ x)
 obtain ⟨⟨oc,od,odt,osl⟩,n,ho,hc,hd⟩:=hl.obj
 have hc':oc=.type (S3 f):=hc
 have hd':odt=.seq items n:=hd
 subst hc' hd'
 cases f
 ·exact callType_new F.called_enumerate (by decide) (F.typeCall_enumerate_1 _) (F.newCall_enumerate_1 _) (fun obj=>F.args_object_init_2 obj _) F.entry_enumerate_new
   (Ai l items n od osl) ⟨ho,⟨_,fin.2,rfl⟩,fin.1⟩
 ·exact callType_new F.called_enumerate (by decide) (F.typeCall_enumerate_1 _) (F.newCall_enumerate_1 _) (fun obj=>F.args_object_init_2 obj _) F.entry_enumerate_new
   (AU l items n od osl) ⟨ho,⟨_,fin.2,rfl⟩,fin.1⟩
noncomputable def HE (f:Bool) (K:PySem.W.Frag) (ta:TA):TI:=fun σ H R=>ta σ H fun vs H1=>∃ a,vs=[.ref a]/\(∃ xs,pJ f K H1 a xs)/\R (Q8 f K a) H1
theorem F5 {f:Bool} {X:Cx} {elts:List Expr} {kk:Nat} {tpos:Pos} {a:Expr} {ta:TA} {p pos:Pos} (hg:Gl X "enumerate") (hm:X.mg "enumerate"=none) (ha:PA X [a] ta) (hs:starEach [a] X.env=[(false,eval a X.env)]) :
  PI X (.Tuple elts kk tpos) (.Call (.Name "enumerate" p) [a] [] pos) (HE f X.K ta):=by
 intro pins s σ H R I h
 refine Call_ (lX I hg hm boot_enumerate (PyProof.Rows.callWith_type1 (bR (ha pos pins s σ H _ I h) fun us s1 ⟨vs,H1,I1,r1,q1⟩=>?_) hs rfl))
 obtain ⟨a,e,⟨xs,hq⟩,q⟩:=q1
 subst e
 cases r1 with
 | cons r rr =>
  cases rr
  cases r
  obtain ⟨its,rv,p,hz⟩:=AB I1 hq
  refine Ht p fun h' he hit hsz hk=>?_
  refine wpAny_pyIter_enum (s:={ s1 with heap:=h' }) he ?_
  have I2:L2.Inv X pins σ H1 { s1 with heap:=h',toks:=s1.toks }:=I1.kept hk
  refine ⟨s1.heap.objs.size + 1,[s1.heap.objs.size + 1,s1.heap.objs.size],_,_,H1,rfl,I2,KD f a s1.heap.objs.size (s1.heap.objs.size + 1),⟨⟨_,he⟩,hit⟩,fun b hb=>?_,q⟩
  have e:b=s1.heap.objs.size + 1\/b=s1.heap.objs.size:=by simpa using hb
  rcases e with rfl | rfl
  ·exact I1.fpOk (Nat.le_succ _) (I1.hok.fresh (Nat.le_succ _))
  ·exact I1.fpOk (Nat.le_refl _) (I1.hok.fresh (Nat.le_refl _))
noncomputable def numbered (us:List U):List U:=us.zipIdx.map fun p=>.tup [.int (p.2:Nat),p.1]
theorem iW (us:List U):(numbered us).length=us.length:=by simp [numbered]
theorem iY {us:List U} {i:Nat} {x:U} (h:(numbered us)[i]?=some x):∃ u,us[i]?=some u/\x=.tup [.int i,u]:=by
 simp only [numbered,List.getElem?_map,List.getElem?_zipIdx] at h
 cases e:us[i]? with
 | none=>rw [e] at h;simp at h
 | some u=>rw [e] at h;simp at h;exact ⟨u,rfl,h.symm⟩
theorem Cd {f:Bool} {K:PySem.W.Frag} {a:Addr} {us:List U} {vs:List V} {H:Hp} {M:aH} (sq:Kj f K H M a vs) (r:aM K H M us vs):Walk K (Q8 f K a) ⟨none,numbered us⟩ H M:=by
 refine ⟨fun H1 M1 s rm _ i u e=>?_,fun H1 M1 s rm _=>⟨vs,sq H1 M1 s,by show vs.length=(numbered us).length;rw [iW,r.length]⟩⟩
 obtain ⟨w,e1,rfl⟩:=iY e
 obtain ⟨v,e2,ru⟩:=r.get e1
 refine ⟨⟨vs,v,sq H1 M1 s,e2⟩,fun x H2 y=>?_⟩
 obtain ⟨p,v',y,hp,rfl,rfl⟩:=y
 have:=y vs (sq _ M1 s)
 rw [e2] at this;cases this
 have st:=bA.laid (o:=.tup [.int i,v]) rm hp
 have rr:aM K H1 M1 [.int i,w] [.int i,v]:=by
  simp only [aM]
  exact ⟨_,_,rfl,dI,_,_,rfl,ru.stp s,rfl⟩
 exact ⟨st,rm.laid hp,vX (rm.no hp) c5 (rr.stp st)⟩
noncomputable def oD (ta:UA):UI:=fun τ M R=>ta τ M fun us M1=>match us with
 | [.tup us]=>R ⟨none,numbered us⟩ M1
 | _=>False
theorem MI {K:PySem.W.Frag} {ta:TA} {ta':UA} (h:lK K ta ta'):nU K (HE false K ta) (oD ta'):=fun σ τ H M R' rs rm q R c=>h σ τ H M _ rs rm q _ fun us vs M1 H1 s1 rm1 ru h1=>by
 split at h1
 ·rename_i xs
  obtain ⟨v,rfl,a⟩:=ru.one
  simp only [aQ] at a
  obtain ⟨a,vs,rfl,m,r⟩:=a
  refine ⟨a,rfl,⟨vs,?_⟩,c _ _ M1 H1 s1 rm1 (Cd (KO m) r) h1⟩
  exact .inl (.inl m.2)
 ·exact h1.elim
theorem kQ {D:Dat} {elts:List Expr} {kk:Nat} {tpos:Pos} {a:Expr} {p pos:Pos} {ta:UA} (hm:D.mg "enumerate"=none) (ha:m9 D [a] ta) (hg:D.sc.names.lookup ("enumerate":Str)=some .globalImplicit:=by rfl) (hs:∀ env,starEach [a] env=[(false,eval a env)]:=by intro _;rfl):rJ D (.Tuple elts kk tpos) (.Call (.Name "enumerate" p) [a] [] pos) (oD ta):=by
 obtain ⟨_,q,s⟩:=ha
 exact ⟨_,fun X h=>h.K ▸ F5 (by show X.env.scope.names.lookup _=_;rw [h.sc];exact hg) (by rw [h.mg];exact hm) (q X h) (hs _),MI s⟩
noncomputable def lV (ta:UA):UI:=fun τ M R=>ta τ M fun us M1=>match us with
 | [.lst us]=>R ⟨none,numbered us⟩ M1
 | _=>False
theorem IU {K:PySem.W.Frag} {ta:TA} {ta':UA} (h:lK K ta ta'):nU K (HE true K ta) (lV ta'):=fun σ τ H M R' rs rm q R c=>h σ τ H M _ rs rm q _ fun us vs M1 H1 s1 rm1 ru h1=>by
 split at h1
 ·rename_i xs
  obtain ⟨v,rfl,a⟩:=ru.one
  simp only [aQ] at a
  obtain ⟨a,vs,rfl,m,r⟩:=a
  refine ⟨a,rfl,⟨vs,?_⟩,c _ _ M1 H1 s1 rm1 (Cd (J9 m) r) h1⟩
  rcases m with ⟨_,m⟩ | k
  ·exact .inl m
  ·exact .inr k
 ·exact h1.elim
theorem CL {D:Dat} {elts:List Expr} {kk:Nat} {tpos:Pos} {a:Expr} {p pos:Pos} {ta:UA} (hm:D.mg "enumerate"=none) (ha:m9 D [a] ta) (hg:D.sc.names.lookup ("enumerate":Str)=some .globalImplicit:=by rfl) (hs:∀ env,starEach [a] env=[(false,eval a env)]:=by intro _;rfl):rJ D (.Tuple elts kk tpos) (.Call (.Name "enumerate" p) [a] [] pos) (lV ta):=by
 obtain ⟨_,q,s⟩:=ha
 exact ⟨_,fun X h=>h.K ▸ F5 (by show X.env.scope.names.lookup _=_;rw [h.sc];exact hg) (by rw [h.mg];exact hm) (q X h) (hs _),IU s⟩
end U2
namespace U2
open PySem PySem.Spec PyProof.Rows L2
mutual
noncomputable def i7 (K:PySem.W.Frag) (H:Hp):PyData->V->Prop
 | .none,v=>v=.non
 | .bool b,v=>v=.bl b
 | .int i,v=>v=.int i
 | .str z,v=>v=.str z
 | .list ds,v=>∃ a xs,v=.ref a/\eT K H a xs/\i4 K H ds xs
 | .tuple ds,v=>∃ a xs,v=.ref a/\iO K H a xs/\i4 K H ds xs
 | .dict _,_=>False
noncomputable def i4 (K:PySem.W.Frag) (H:Hp):List PyData->List V->Prop
 | [],vs=>vs=[]
 | d :: ds,vs=>∃ v vs',vs=v :: vs'/\i7 K H d v/\i4 K H ds vs'
end
mutual
theorem i7.reads {X:Cx} {pins:List (Addr × Obj)} {σ:L2.St} {H:Hp} {s:Shared} (I:L2.Inv X pins σ H s):∀ {d:PyData} {v:V} {u:Value},i7 X.K H d v->RelV v u->∃ as,Reads s.heap u d as
 | .none,v,u,h,r=>by simp only [i7] at h;subst h;cases r;exact ⟨_,.none⟩
 | .bool b,v,u,h,r=>by simp only [i7] at h;subst h;cases r;exact ⟨_,.bool b⟩
 | .int i,v,u,h,r=>by simp only [i7] at h;subst h;obtain ⟨t,rfl⟩:=r;exact ⟨_,.int i t⟩
 | .str z,v,u,h,r=>by simp only [i7] at h;subst h;obtain ⟨t,rfl⟩:=r;exact ⟨_,.str z t⟩
 | .list ds,v,u,h,r=>by
  simp only [i7] at h
  obtain ⟨a,xs,rfl,q,hs⟩:=h
  cases r
  obtain ⟨its,rv,p,hz⟩:=I.list q
  obtain ⟨as,ra⟩:=i4.reads I hs rv
  obtain ⟨o,h1,h2,n,h3⟩:=p.isList
  exact ⟨_,.list h1 h2 h3 (by simpa using ra)⟩
 | .tuple ds,v,u,h,r=>by
  simp only [i7] at h
  obtain ⟨a,xs,rfl,q,hs⟩:=h
  cases r
  obtain ⟨its,rv,p,hz⟩:=I.tuple q
  obtain ⟨as,ra⟩:=i4.reads I hs rv
  obtain ⟨o,h1,h2,n,h3⟩:=(show s.heap.IsTuple a its.toArray from p)
  exact ⟨_,.tuple h1 h2 h3 (by simpa using ra)⟩
 | .dict _,v,u,h,r=>by simp only [i7] at h
theorem i4.reads {X:Cx} {pins:List (Addr × Obj)} {σ:L2.St} {H:Hp} {s:Shared} (I:L2.Inv X pins σ H s):∀ {ds:List PyData} {vs:List V} {us:List Value},i4 X.K H ds vs->Vals vs us->∃ as,ReadsAll s.heap us ds as
 | [],vs,us,h,r=>by simp only [i4] at h;subst h;cases r;exact ⟨_,.nil⟩
 | d :: ds,vs,us,h,r=>by
  simp only [i4] at h
  obtain ⟨v,vs',rfl,h1,h2⟩:=h
  cases r with
  | cons r rr =>
   obtain ⟨as,ra⟩:=i7.reads I h1 r
   obtain ⟨bs,rb⟩:=i4.reads I h2 rr
   exact ⟨_,.cons ra rb⟩
end
noncomputable def L8 (K:PySem.W.Frag) (neg:Bool):R2:=fun x y H Q=>∃ d d',i7 K H d x/\i7 K H d' y/\d.canLay0=true/\d'.canLay0=true/\min d.depth d'.depth<=64/\Q (.bl (if neg then !PyData.eqv d d' else PyData.eqv d d')) H
theorem Q1 {X:Cx} {k:Nat} (hr:iT k X.A):fE X (compareOp .Eq) (L8 X.K false):=by
 intro pins s σ H x y v u Q I rx ry h
 obtain ⟨d,d',h1,h2,c1,c2,hd,q⟩:=h
 obtain ⟨as,ra⟩:=h1.reads I rx
 obtain ⟨bs,rb⟩:=h2.reads I ry
 exact SeqAt.compareEq_reads ra rb c1 c2 (by have:=hr.units;omega) ⟨.bl _,H,I,rfl,q⟩
theorem RC {X:Cx} {k:Nat} (hr:iT k X.A):fE X (compareOp .NotEq) (L8 X.K true):=by
 intro pins s σ H x y v u Q I rx ry h
 obtain ⟨d,d',h1,h2,c1,c2,hd,q⟩:=h
 obtain ⟨as,ra⟩:=h1.reads I rx
 obtain ⟨bs,rb⟩:=h2.reads I ry
 exact SeqAt.compareNe_reads ra rb c1 c2 (by have:=hr.units;omega) ⟨.bl _,H,I,rfl,q⟩
mutual
noncomputable def toD:U->Option PyData
 | .non=>some .none
 | .bl b=>some (.bool b)
 | .int i=>some (.int i)
 | .str z=>some (.str z)
 | .tup us=>(cV us).map .tuple
 | .lst us=>(cV us).map .list
 | .ty _=>none
 | .ref _=>none
 | .dic _ _ _=>none
noncomputable def cV:List U->Option (List PyData)
 | []=>some []
 | u :: us=>match toD u,cV us with
  | some d,some ds=>some (d :: ds)
  | _,_=>none
end
noncomputable def j2 (M:aH) (u:U):Option PyData:=match u with
 | .ref a=>match M a with
  | some (.lst us)=>(cV us).map .list
  | _=>none
 | u=>toD u
mutual
theorem FI {K:PySem.W.Frag} {H:Hp} {M:aH}:∀ {u:U} {v:V} {d:PyData},aQ K H M u v->toD u=some d->i7 K H d v
 | .non,v,d,r,e=>by simp only [toD,Option.some.injEq] at e;subst e;simp only [i7];exact r.non
 | .bl b,v,d,r,e=>by simp only [toD,Option.some.injEq] at e;subst e;simp only [i7];exact r.bl
 | .int i,v,d,r,e=>by simp only [toD,Option.some.injEq] at e;subst e;simp only [i7];exact r.int
 | .str i,v,d,r,e=>by simp only [toD,Option.some.injEq] at e;subst e;simp only [i7];exact r.str
 | .tup us,v,d,r,e=>by
  simp only [toD] at e
  cases e2:cV us with
  | none=>rw [e2] at e;simp at e
  | some ds =>
   rw [e2] at e;simp at e;subst e
   obtain ⟨a,vs,rfl,q,rs⟩:=r.tup
   simp only [i7]
   exact ⟨a,vs,rfl,q,uK rs e2⟩
 | .lst us,v,d,r,e=>by
  simp only [toD] at e
  cases e2:cV us with
  | none=>rw [e2] at e;simp at e
  | some ds =>
   rw [e2] at e;simp at e;subst e
   obtain ⟨a,vs,rfl,q,rs⟩:=r.lst
   simp only [i7]
   exact ⟨a,vs,rfl,q,uK rs e2⟩
 | .ty _,v,d,r,e=>by simp [toD] at e
 | .ref _,v,d,r,e=>by simp [toD] at e
 | .dic _ _ _,v,d,r,e=>by simp [toD] at e
theorem uK {K:PySem.W.Frag} {H:Hp} {M:aH}:∀ {us:List U} {vs:List V} {ds:List PyData},aM K H M us vs->cV us=some ds->i4 K H ds vs
 | [],vs,ds,r,e=>by simp only [cV,Option.some.injEq] at e;subst e;simp only [i4];exact r.inv_nil
 | u :: us,vs,ds,r,e=>by
  obtain ⟨v,vs',rfl,a,b⟩:=r.inv_cons
  simp only [cV] at e
  cases e1:toD u with
  | none=>rw [e1] at e;simp at e
  | some d =>
   cases e2:cV us with
   | none=>rw [e1,e2] at e;simp at e
   | some ds' =>
    rw [e1,e2] at e;simp at e;subst e
    simp only [i4]
    exact ⟨v,vs',rfl,FI a e1,uK b e2⟩
end
theorem Ec {K:PySem.W.Frag} {H:Hp} {M:aH} {u:U} {v:V} {d:PyData} (rm:RelM K H M) (r:aQ K H M u v) (e:j2 M u=some d):i7 K H d v:=by
 cases u with
 | ref a =>
  simp only [j2] at e
  split at e
  ·rename_i us hM
   cases e2:cV us with
   | none=>rw [e2] at e;simp at e
   | some ds =>
    rw [e2] at e;simp at e;subst e
    obtain ⟨vs,h1,rs⟩:=rm a _ hM
    cases r.ref
    simp only [i7]
    exact ⟨a,vs,rfl,.inl (.inl h1),uK rs e2⟩
  ·cases e
 | _=>exact FI r (by simpa only [j2] using e)
noncomputable def BK (neg:Bool):fF:=fun x y M Q=>∃ d d',j2 M x=some d/\j2 M y=some d'/\d.canLay0=true/\d'.canLay0=true/\min d.depth d'.depth<=64/\Q (.bl (if neg then !PyData.eqv d d' else PyData.eqv d d')) M
theorem FU {K:PySem.W.Frag} {neg:Bool}:gI K (L8 K neg) (BK neg):=fun x y u w H M Q' rm ru rw h Q c=>by
 obtain ⟨d,d',e1,e2,c1,c2,hd,q⟩:=h
 exact ⟨d,d',Ec rm ru e1,Ec rm rw e2,c1,c2,hd,c.here rm iR q⟩
variable {D:Dat}
noncomputable def jN:U->Bool
 | .non=>true
 | .bl _=>true
 | .int _=>true
 | .str _=>true
 | _=>false
noncomputable def zO:U->U->Bool
 | .non,.non=>true
 | .bl a,.bl b=>a == b
 | .bl a,.int j=>(if a then 1 else 0) == j
 | .int i,.bl b=>i == (if b then 1 else 0)
 | .int i,.int j=>i == j
 | .str x,.str y=>x == y
 | _,_=>false
noncomputable def items (M:aH):U->Option (List U)
 | .tup us=>some us
 | .lst us=>some us
 | .ref a=>match M a with
  | some (.lst us)=>some us
  | _=>none
 | _=>none
noncomputable def wG (neg:Bool):fF:=fun x y M Q=>match items M y with
 | some us=>jN x=true/\us.all jN=true/\Q (.bl (if neg then !us.any (fun u=>zO u x) else us.any (fun u=>zO u x))) M
 | none=>False
theorem DN {K:PySem.W.Frag} {H:Hp} {M:aH} {u:U} {v:V} (r:aQ K H M u v) (f:jN u=true):oE v=true:=by
 cases u with
 | non=>cases r.non;rfl
 | bl b=>cases r.bl;rfl
 | int b=>cases r.int;rfl
 | str b=>cases r.str;rfl
 | _=>exact absurd (show false=true from f) Bool.false_ne_true
theorem N0 {K:PySem.W.Frag} {H:Hp} {M:aH} {u w:U} {v x:V} (r:aQ K H M u v) (r':aQ K H M w x) (f:jN u=true) (f':jN w=true):A6 v x=zO u w:=by
 cases u <;> (first | (cases r.non) | (cases r.bl) | (cases r.int) | (cases r.str) | exact absurd (show false=true from f) Bool.false_ne_true) <;> cases w <;>
  (first | (cases r'.non) | (cases r'.bl) | (cases r'.int) | (cases r'.str) | exact absurd (show false=true from f') Bool.false_ne_true) <;> rfl
theorem B3 {K:PySem.W.Frag} {H:Hp} {M:aH}:∀ {us:List U} {vs:List V},aM K H M us vs->us.all jN=true->vs.all oE=true
 | [],vs,r,_=>by cases r.inv_nil;rfl
 | u :: us,vs,r,f=>by
  obtain ⟨v,vs',rfl,a,b⟩:=r.inv_cons
  rw [List.all_cons,Bool.and_eq_true] at f ⊢
  exact ⟨DN a f.1,B3 b f.2⟩
theorem F1 {K:PySem.W.Frag} {H:Hp} {M:aH} {w:U} {x:V} (r':aQ K H M w x) (f':jN w=true):∀ {us:List U} {vs:List V},aM K H M us vs->us.all jN=true->Nk x vs=us.any fun u=>zO u w
 | [],vs,r,_=>by cases r.inv_nil;rfl
 | u :: us,vs,r,f=>by
  obtain ⟨v,vs',rfl,a,b⟩:=r.inv_cons
  rw [List.all_cons,Bool.and_eq_true] at f
  have:=F1 r' f' b f.2
  unfold Nk at this ⊢
  rw [List.any_cons,List.any_cons,this,N0 a r' f.1 f']
theorem IJ {K:PySem.W.Frag} {H:Hp} {M:aH} {u:U} {v:V} {us:List U} (rm:RelM K H M) (r:aQ K H M u v) (e:items M u=some us):∃ p xs,v=.ref p/\(eT K H p xs\/iO K H p xs)/\aM K H M us xs:=by
 cases u with
 | tup us'=>cases e;obtain ⟨a,vs,rfl,q,rs⟩:=r.tup;exact ⟨a,vs,rfl,.inr q,rs⟩
 | lst us'=>cases e;obtain ⟨a,vs,rfl,q,rs⟩:=r.lst;exact ⟨a,vs,rfl,.inl q,rs⟩
 | ref a =>
  simp only [items] at e
  split at e
  ·rename_i us' hM
   cases e
   obtain ⟨vs,h1,rs⟩:=rm a _ hM
   exact ⟨a,vs,r.ref,.inl (.inl (.inl h1)),rs⟩
  ·cases e
 | _=>cases e
theorem Jd {K:PySem.W.Frag} {neg:Bool}:gI K (Rx K neg) (wG neg):=fun x y u w H M Q' rm ru rw h Q c=>by
 unfold wG at h
 split at h
 ·rename_i us e
  obtain ⟨f,fs,q⟩:=h
  obtain ⟨p,xs,rfl,hs,rs⟩:=IJ rm rw e
  refine ⟨p,xs,rfl,hs,DN ru f,B3 rs fs,?_⟩
  rw [F1 ru f rs fs]
  exact c.here rm iR q
 ·exact h.elim
theorem MY:t6 D .In (wG false):=⟨⟨_,fun X h=>h.K ▸ JU,Jd⟩⟩
theorem yP:t6 D .NotIn (wG true):=⟨⟨_,fun X h=>h.K ▸ Er,Jd⟩⟩
noncomputable def tI (neg:Bool):fF:=fun x y M Q=>match Jq x y with
 | some b=>Q (.bl (if neg then !b else b)) M
 | none=>BK neg x y M Q
theorem c7:t6 D .Eq (tI false):=⟨⟨_,fun X h=>h.K ▸ Sr.or (Q1 h.room),fun x y u w H M Q' rm ru rw h Q c=>by
 unfold tI at h
 split at h
 ·rename_i b e
  obtain ⟨h1,h2⟩:=Gh ru rw e
  exact .inl ⟨h1,c.here rm (by rw [h2];exact iR) h⟩
 ·exact .inr (FU x y u w H M Q' rm ru rw h Q c)⟩⟩
theorem pY:t6 D .NotEq (tI true):=⟨⟨_,fun X h=>h.K ▸ R6.or (RC h.room),fun x y u w H M Q' rm ru rw h Q c=>by
 unfold tI at h
 split at h
 ·rename_i b e
  obtain ⟨h1,h2⟩:=Gh ru rw e
  exact .inl ⟨h1,c.here rm (by rw [h2];exact iR) h⟩
 ·exact .inr (FU x y u w H M Q' rm ru rw h Q c)⟩⟩
end U2
namespace U2
open PySem PySem.Spec PyProof.Rows L2
structure Zp (z TI TO i1 i2:Addr) (f1 f2:List Addr):Prop where
 TIz:TI≠z
 TOz:TO≠z
 i1z:i1≠z
 i2z:i2≠z
 TITO:TI≠TO
 TIi1:TI≠i1
 TIi2:TI≠i2
 TOi1:TO≠i1
 TOi2:TO≠i2
 i12:i1≠i2
 zf1:z ∉ f1
 zf2:z ∉ f2
 Tf1:TO ∉ f1
 Tf2:TO ∉ f2
 if2:i1 ∉ f2
 if1:i2 ∉ f1
theorem Draws.same {prog:Program} {w:World} {A:Around} {it:Addr} {fp:List Addr} {n:Nat} {P:Nat->Value->Prop} {St:Nat->Heap->Prop} (D:Draws prog w A it fp n P St) {i:Nat} {h h':Heap} {c:Addr} (st:St i h) (sb:Heap.ExtBut c h h') (hc:c ∉ fp):St i h' :=
 D.frame _ _ _ st fun b hb o e=>sb b o (fun q=>hc (q ▸ hb)) e
section
variable {prog:Program} {w:World} {A:Around} {E:Value->Shared->Prop} {s:Shared} {z TI TO i1 i2:Addr} {f1 f2:List Addr} {n1 n2:Nat} {P1 P2:Nat->Value->Prop} {S1 S2:Nat->Heap->Prop} {i:Nat} {a b:Value}
theorem LJ (Z:Zp z TI TO i1 i2 f1 f2) (D1:Draws prog w A i1 f1 n1 P1 S1) (D2:Draws prog w A i2 f2 n2 P2 S2) {Q:Value->Shared->Prop}
  (hz:IsZip s.heap z TI TO .none) (hTI:IsPair s.heap TI (.ref i1) (.ref i2)) (hTO:IsPair s.heap TO a b) (h1:S1 i s.heap) (h2:S2 i s.heap) (l1:i < n1) (l2:i < n2)
  (hQ:∀ x y h' tk,P1 i x->P2 i y->IsZip h' z TI TO (rawInt s.heap.objs.size)->IsPair h' TO x y->S1 (i + 1) h'->S2 (i + 1) h'->IsPair h' s.heap.objs.size x y ->
   (∀ c o,c≠z->c≠TO->c≠i1->c≠i2->s.heap.get? c=some o->h'.get? c=some o)->Q (.ref s.heap.objs.size) { s with heap:=h',toks:=tk }) :
  wpAny (model prog w) A (Builtin.«zip.__next__» ⟨[.ref z],[]⟩) (fun fin s'=>∃ v,fin=.done (.ret v)/\Q v s') E s:=by
 show wpAny _ _ (field (.ref z) 2 >>= _) _ _ _
 refine wpAny_bind (wpAny_field hz rfl (x:=.bool false) rfl ?_)
 show wpAny _ _ (field (.ref z) 3 >>= _) _ _ _
 refine wpAny_bind (wpAny_field hz rfl (x:=.ref TI) rfl ?_)
 refine wpAny_bind (wpAny_seqItems hTI rfl ?_)
 show wpAny _ _ (Builtin.SmallTypes.ownedTupleIsFree (.ref z) >>= _) _ _ _
 refine wpAny_bind ?_
 unfold Builtin.SmallTypes.ownedTupleIsFree
 refine wpAny_bind (wpAny_field hz rfl (x:=.none) rfl (wpAny_pure ?_))
 simp only [if_true]
 refine wpAny_bind (wpAny_rule ?_)
 refine wpAny_bind (wpAny_field hz rfl (x:=.ref TO) rfl ?_)
 refine wpAny_bind (wpAny_setField_rec hz (by simp) fun g1 hz1 hs1=>?_)
 replace hz1:IsZip g1 z TI TO .ellipsis:=hz1
 refine wpAny_bind ?_
 simp only [List.zipIdx_cons,List.zipIdx_nil,List.forIn_cons,List.forIn_nil]
 refine wpAny_bind (wpAny_bind (wpAny_onRaise ?_))
 show wpAny _ _ (Builtin.SmallTypes.nextOf (.ref i1) >>= _) _ _ _
 refine wpAny_bind (D1.item i _ _ _ l1 (Draws.same D1 h1 hs1.extBut Z.zf1) fun x g2 tk2 px eD hs2=>wpAny_pure ?_)
 have hTO2:IsPair g2 TO a b:=hs2.extBut _ _ Z.TOi1 (hs1.extBut _ _ Z.TOz hTO)
 refine wpAny_bind (wpAny_seqItems hTO2 rfl ?_)
 refine wpAny_bind (wpAny_updateSeq_pair hTO2 fun g3 hTO3 hs3=>?_)
 replace hTO3:IsPair g3 TO x b:=hTO3
 refine wpAny_bind (wpAny_letGo (wpAny_pure ?_))
 refine wpAny_bind (wpAny_bind (wpAny_onRaise ?_))
 show wpAny _ _ (Builtin.SmallTypes.nextOf (.ref i2) >>= _) _ _ _
 refine wpAny_bind (D2.item i _ _ _ l2 (Draws.same D2 (Draws.same D2 (Draws.same D2 h2 hs1.extBut Z.zf2) hs2.extBut Z.if2) hs3.extBut Z.Tf2) fun y g4 tk4 py st4 hs4=>wpAny_pure ?_)
 have hTO4:IsPair g4 TO x b:=hs4.extBut _ _ Z.TOi2 hTO3
 refine wpAny_bind (wpAny_seqItems hTO4 rfl ?_)
 refine wpAny_bind (wpAny_updateSeq_pair hTO4 fun g5 hTO5 hs5=>?_)
 replace hTO5:IsPair g5 TO x y:=hTO5
 refine wpAny_bind (wpAny_letGo (wpAny_pure (wpAny_pure ?_)))
 refine wpAny_bind (wpAny_seqItems hTO5 rfl ?_)
 refine wpAny_bind (wpAny_newTuple ?_)
 have hsz:g5.objs.size=s.heap.objs.size:=by rw [hs5.1,hs4.1,hs3.1,hs2.1,hs1.1]
 have hz5:IsZip g5 z TI TO .ellipsis:=hs5.extBut _ _ Z.TOz.symm (hs4.extBut _ _ Z.i2z.symm (hs3.extBut _ _ Z.TOz.symm (hs2.extBut _ _ Z.i1z.symm hz1)))
 have hk5:∀ c o,c≠z->c≠TO->c≠i1->c≠i2->s.heap.get? c=some o->g5.get? c=some o:=fun c o c1 c2 c3 c4 e =>
  hs5.extBut _ _ c2 (hs4.extBut _ _ c4 (hs3.extBut _ _ c2 (hs2.extBut _ _ c3 (hs1.extBut _ _ c1 e))))
 have h15:S1 (i + 1) g5:=Draws.same D1 (Draws.same D1 (Draws.same D1 eD hs3.extBut Z.Tf1) hs4.extBut Z.if1) hs5.extBut Z.Tf1
 have h25:S2 (i + 1) g5:=Draws.same D2 st4 hs5.extBut Z.Tf2
 have hzlt:z < g5.objs.size:=Heap.lt_size hz5
 show wpAny _ _ (Builtin.SmallTypes.ownedTupleHandOut (.ref z) (.ref g5.objs.size) >>= _) _ _ _
 refine wpAny_bind ?_
 unfold Builtin.SmallTypes.ownedTupleHandOut
 have hz6:IsZip (g5.push { cls:=.type "tuple",data:=.seq #[x,y] }) z TI TO .ellipsis:=Heap.get?_push_of_some _ hz5
 refine wpAny_bind (wpAny_setField_rec hz6 (by simp) fun g7 hz7 hs7=>?_)
 replace hz7:IsZip g7 z TI TO (rawInt g5.objs.size):=hz7
 refine wpAny_setField_rec hz7 (by simp) fun g8 hz8 hs8=>?_
 replace hz8:IsZip g8 z TI TO (rawInt g5.objs.size):=hz8
 have up:∀ c o,c≠z->g5.get? c=some o->g8.get? c=some o:=fun c o c1 e=>hs8.extBut _ _ c1 (hs7.extBut _ _ c1 (Heap.get?_push_of_some _ e))
 have hT8:IsPair g8 g5.objs.size x y:=hs8.extBut _ _ (Nat.ne_of_gt hzlt) (hs7.extBut _ _ (Nat.ne_of_gt hzlt) (Heap.get?_push_size _ rfl))
 rw [hsz] at hz8 hT8
 refine wpAny_pure ⟨_,rfl,?_⟩
 show Q (.ref g5.objs.size) _
 rw [hsz]
 exact hQ x y g8 _ px py hz8 (up _ _ Z.TOz hTO5) (D1.frame _ _ _ h15 fun b hb o e=>up b o (fun q=>Z.zf1 (q ▸ hb)) e) (D2.frame _ _ _ h25 fun b hb o e=>up b o (fun q=>Z.zf2 (q ▸ hb)) e) hT8 fun c o c1 c2 c3 c4 e=>up c o c1 (hk5 c o c1 c2 c3 c4 e)
theorem Pe (Z:Zp z TI TO i1 i2 f1 f2) (D1:Draws prog w A i1 f1 n1 P1 S1) (D2:Draws prog w A i2 f2 n2 P2 S2) {Q:Fin->Shared->Prop}
  (hz:IsZip s.heap z TI TO .none) (hTI:IsPair s.heap TI (.ref i1) (.ref i2)) (hTO:IsPair s.heap TO a b) (h1:S1 i s.heap) (h2:S2 i s.heap) (l1:i<=n1) (hi:i=min n1 n2)
  (hE:∀ h' e tk,(∀ c o,c≠z->c≠TO->c≠i1->c≠i2->s.heap.get? c=some o->h'.get? c=some o)->(∃ o,h'.get? e=some o/\o.cls=.type "StopIteration")->E (.ref e) { s with heap:=h',toks:=tk }) :
  wpAny (model prog w) A (Builtin.«zip.__next__» ⟨[.ref z],[]⟩) Q E s:=by
 show wpAny _ _ (field (.ref z) 2 >>= _) _ _ _
 refine wpAny_bind (wpAny_field hz rfl (x:=.bool false) rfl ?_)
 show wpAny _ _ (field (.ref z) 3 >>= _) _ _ _
 refine wpAny_bind (wpAny_field hz rfl (x:=.ref TI) rfl ?_)
 refine wpAny_bind (wpAny_seqItems hTI rfl ?_)
 show wpAny _ _ (Builtin.SmallTypes.ownedTupleIsFree (.ref z) >>= _) _ _ _
 refine wpAny_bind ?_
 unfold Builtin.SmallTypes.ownedTupleIsFree
 refine wpAny_bind (wpAny_field hz rfl (x:=.none) rfl (wpAny_pure ?_))
 simp only [if_true]
 refine wpAny_bind (wpAny_rule ?_)
 refine wpAny_bind (wpAny_field hz rfl (x:=.ref TO) rfl ?_)
 refine wpAny_bind (wpAny_setField_rec hz (by simp) fun g1 hz1 hs1=>?_)
 replace hz1:IsZip g1 z TI TO .ellipsis:=hz1
 refine wpAny_bind ?_
 simp only [List.zipIdx_cons,List.zipIdx_nil,List.forIn_cons,List.forIn_nil]
 refine wpAny_bind (wpAny_bind (wpAny_onRaise ?_))
 show wpAny _ _ (Builtin.SmallTypes.nextOf (.ref i1) >>= _) _ _ _
 have hA:S1 i g1:=Draws.same D1 h1 hs1.extBut Z.zf1
 by_cases hlt:i < n1
 ·have hn2:i=n2:=by omega
  refine wpAny_bind (D1.item i _ _ _ hlt hA fun x g2 tk2 px eD hs2=>wpAny_pure ?_)
  have hTO2:IsPair g2 TO a b:=hs2.extBut _ _ Z.TOi1 (hs1.extBut _ _ Z.TOz hTO)
  refine wpAny_bind (wpAny_seqItems hTO2 rfl ?_)
  refine wpAny_bind (wpAny_updateSeq_pair hTO2 fun g3 hTO3 hs3=>?_)
  refine wpAny_bind (wpAny_letGo (wpAny_pure ?_))
  refine wpAny_bind (wpAny_bind (wpAny_onRaise ?_))
  show wpAny _ _ (Builtin.SmallTypes.nextOf (.ref i2) >>= _) _ _ _
  refine wpAny_bind (D2.done _ _ _ (hn2 ▸ Draws.same D2 (Draws.same D2 (Draws.same D2 h2 hs1.extBut Z.zf2) hs2.extBut Z.if2) hs3.extBut Z.Tf2) fun g4 e hs4 he=>?_)
  obtain ⟨oe,hoe,hce⟩:=he
  have hz4:IsZip g4 z TI TO .ellipsis:=hs4 _ _ Z.i2z.symm (hs3.extBut _ _ Z.TOz.symm (hs2.extBut _ _ Z.i1z.symm hz1))
  have hez:e≠z:=fun x=>by subst x;rw [hz4] at hoe;cases hoe;simp at hce
  exact wpAny_setField_rec hz4 (by simp) fun g5 _ hs5=>hE g5 e _ (fun c o c1 c2 c3 c4 x=>hs5.extBut _ _ c1 (hs4 _ _ c4 (hs3.extBut _ _ c2 (hs2.extBut _ _ c3 (hs1.extBut _ _ c1 x))))) ⟨oe,hs5.extBut _ _ hez hoe,hce⟩
 ·have hn1:i=n1:=by omega
  refine wpAny_bind (D1.done _ _ _ (hn1 ▸ hA) fun g2 e hs2 he=>?_)
  obtain ⟨oe,hoe,hce⟩:=he
  have hz2:IsZip g2 z TI TO .ellipsis:=hs2 _ _ Z.i1z.symm hz1
  have hez:e≠z:=fun x=>by subst x;rw [hz2] at hoe;cases hoe;simp at hce
  exact wpAny_setField_rec hz2 (by simp) fun g3 _ hs3=>hE g3 e _ (fun c o c1 _ c3 _ x=>hs3.extBut _ _ c1 (hs2 _ _ c3 (hs1.extBut _ _ c1 x))) ⟨oe,hs3.extBut _ _ hez hoe,hce⟩
theorem CJ (Z:Zp z TI TO i1 i2 f1 f2) (D1:Draws prog w A.in1 i1 f1 n1 P1 S1) (D2:Draws prog w A.in1 i2 f2 n2 P2 S2) {Q:Option Value->Shared->Prop}
  (hz:IsZip s.heap z TI TO .none) (hTI:IsPair s.heap TI (.ref i1) (.ref i2)) (hTO:IsPair s.heap TO a b) (h1:S1 i s.heap) (h2:S2 i s.heap) (l1:i < n1) (l2:i < n2)
  (hQ:∀ x y h' tk,P1 i x->P2 i y->IsZip h' z TI TO (rawInt s.heap.objs.size)->IsPair h' TO x y->S1 (i + 1) h'->S2 (i + 1) h'->IsPair h' s.heap.objs.size x y ->
   (∀ c o,c≠z->c≠TO->c≠i1->c≠i2->s.heap.get? c=some o->h'.get? c=some o)->Q (some (.ref s.heap.objs.size)) { s with heap:=h',toks:=tk }) :
  wpAny (model prog w) A (pyNext (.ref z)) Q E s:=by
 have hT:s.TypeIs (.ref z) "zip":=⟨_,hz,rfl⟩
 unfold pyNext
 exact wpAny_bind (wpAny_attempt (wpAny_callSpecial?_slot (name:=Str.ofString "__next__") hT PySem.F.slot_zip_next
  (wpAny_call_entry PySem.F.slot_zip_next hT PySem.F.entry_zip_next
   (LJ Z D1 D2 hz hTI hTO h1 h2 l1 l2 fun x y h' tk a1 a2 a3 a4 a5 a6 a7 a8=>wpAny_pure (hQ x y h' tk a1 a2 a3 a4 a5 a6 a7 a8)) (PySem.F.args_zip_next_1 _))))
theorem Ee (Z:Zp z TI TO i1 i2 f1 f2) (D1:Draws prog w A.in1 i1 f1 n1 P1 S1) (D2:Draws prog w A.in1 i2 f2 n2 P2 S2) {Q:Option Value->Shared->Prop}
  (hz:IsZip s.heap z TI TO .none) (hTI:IsPair s.heap TI (.ref i1) (.ref i2)) (hTO:IsPair s.heap TO a b) (h1:S1 i s.heap) (h2:S2 i s.heap) (l1:i<=n1) (hi:i=min n1 n2)
  (hQ:∀ h' tk,(∀ c o,c≠z->c≠TO->c≠i1->c≠i2->s.heap.get? c=some o->h'.get? c=some o)->Q none { s with heap:=h',toks:=tk }):wpAny (model prog w) A (pyNext (.ref z)) Q E s:=by
 have hT:s.TypeIs (.ref z) "zip":=⟨_,hz,rfl⟩
 unfold pyNext
 refine wpAny_bind (wpAny_attempt (wpAny_callSpecial?_slot (name:=Str.ofString "__next__") hT PySem.F.slot_zip_next
  (wpAny_call_entry PySem.F.slot_zip_next hT PySem.F.entry_zip_next (Pe Z D1 D2 hz hTI hTO h1 h2 l1 hi fun h' e tk hk he=>?_) (PySem.F.args_zip_next_1 _))))
 obtain ⟨o,ho,hc⟩:=he
 refine wpAny_bind (wpAny_isInstance (T:="StopIteration") (b:=true) ⟨o,ho,hc⟩ isSubtype_stop ?_)
 exact wpAny_pure (hQ _ _ hk)
end
noncomputable def P7 (f g:Bool) (K:PySem.W.Frag) (a c:Addr):It :=
  ⟨fun i H=>∃ xs ys x y,pJ f K H a xs/\pJ g K H c ys/\xs[i]?=some x/\ys[i]?=some y,
   fun i H v H'=>∃ p x y,(∀ xs,pJ f K H a xs->xs[i]?=some x)/\(∀ ys,pJ g K H c ys->ys[i]?=some y)/\H p=none/\v=.ref p/\H'=upd H p (.tup [x,y]),
   fun i H=>∃ xs ys,pJ f K H a xs/\pJ g K H c ys/\i=min xs.length ys.length⟩
theorem NM {f g:Bool} {h:Heap} {z TI TO i1 i2 a c:Addr} {f0 u v:Value} {k1 k2:Nat} {xs ys:Array Value} (hz:IsZip h z TI TO f0) (q:TI≠TO/\i1≠i2/\TO≠a/\TO≠c) (hTI:IsPair h TI (.ref i1) (.ref i2)) (hTO:IsPair h TO u v)
  (h1:mX f h i1 a k1) (h2:mX g h i2 c k2) (ha:lF f h a xs) (hc:lF g h c ys):Zp z TI TO i1 i2 [i1,a] [i2,c]:=by
 have iz:=fun {r:Bool} {i x:Addr} {k:Nat} (p:mX r h i x k)=>let ⟨_,e,c,_⟩:=p.obj;lN e hz c rfl (by cases r <;> decide)
 have az:=fun {r:Bool} {x:Addr} {xs:Array Value} (p:lF r h x xs)=>let ⟨_,_,e,c,_⟩:=p.obj;lN e hz c rfl (by cases r <;> decide)
 have ti:=fun {r:Bool} {i x t:Addr} {u v:Value} {k:Nat} (w:IsPair h t u v) (p:mX r h i x k)=>let ⟨_,e,c,_⟩:=p.obj;lN w e rfl c (by cases r <;> decide)
 refine ⟨lN hTI hz rfl rfl (by decide),lN hTO hz rfl rfl (by decide),iz h1,iz h2,q.1,ti hTI h1,ti hTI h2,ti hTO h1,ti hTO h2,q.2.1,?_,?_,?_,?_,?_,?_⟩ <;> simp only [List.mem_cons,List.not_mem_nil,or_false,not_or]
 ·exact ⟨(iz h1).symm,(az ha).symm⟩
 ·exact ⟨(iz h2).symm,(az hc).symm⟩
 ·exact ⟨ti hTO h1,q.2.2.1⟩
 ·exact ⟨ti hTO h2,q.2.2.2⟩
 ·exact ⟨q.2.1,(hc.ne h1).symm⟩
 ·exact ⟨q.2.1.symm,(ha.ne h2).symm⟩
theorem MZ {P:Program} {w:World} {K:PySem.W.Frag} {elts:List Expr} {kk:Nat} {pos:Pos} (f g:Bool) (a c z TI TO i1 i2:Addr) (q:TI≠TO/\i1≠i2/\TO≠a/\TO≠c) :
  Turn P w K (.Tuple elts kk pos) (P7 f g K a c) [z,TI,TO,i1,i2] z (fun i h=>IsZip h z TI TO .none/\IsPair h TI (.ref i1) (.ref i2)/\(∃ u v,IsPair h TO u v)/\mX f h i1 a i/\mX g h i2 c i) where
 mem:=by simp
 obj:=fun i h st b hb=>by
  obtain ⟨hz,hTI,⟨u,v,hTO⟩,h1,h2⟩:=st
  obtain ⟨o1,e1,c1,d1⟩:=h1.obj
  obtain ⟨o2,e2,c2,d2⟩:=h2.obj
  have:b=z\/b=TI\/b=TO\/b=i1\/b=i2:=by simpa using hb
  rcases this with rfl | rfl | rfl | rfl | rfl
  ·exact ⟨_,hz,fun v x=>by
    have x':Data.fields _=Data.cell v:=x
    cases x'⟩
  ·exact ⟨_,hTI,fun v x=>by
    have x':Data.seq _ _=Data.cell v:=x
    cases x'⟩
  ·exact ⟨_,hTO,fun v x=>by
    have x':Data.seq _ _=Data.cell v:=x
    cases x'⟩
  ·exact ⟨_,e1,fun v x=>by rw [d1] at x;cases x⟩
  ·exact ⟨_,e2,fun v x=>by rw [d2] at x;cases x⟩
 keep:=fun i h h' st k=>let ⟨hz,hTI,⟨u,v,hTO⟩,h1,h2⟩:=st
  ⟨k z (by simp) _ hz,k TI (by simp) _ hTI,⟨u,v,k TO (by simp) _ hTO⟩,h1.at fun o e=>k i1 (by simp) o e,h2.at fun o e=>k i2 (by simp) o e⟩
 item:=by
  intro X hP hw hK hc i pins s σ H E I hf st hg
  subst hP hw hK
  obtain ⟨hz,hTI,⟨u,v,hTO⟩,h1,h2⟩:=st
  obtain ⟨xs,ys,x,y,hqx,hqy,hx,hy⟩:=hg
  obtain ⟨its,rv,p,_⟩:=AB I hqx
  obtain ⟨its',rv',p',_⟩:=AB I hqy
  obtain ⟨x',hu,ru⟩:=rv.get hx
  obtain ⟨y',hu',ru'⟩:=rv'.get hy
  have Z:=NM hz q hTI hTO h1 h2 p p'
  have n1:a≠i1:=p.ne h1
  have n2:c≠i2:=p'.ne h2
  have hd:X.A.in1.handled=none:=I.ok.hd hc
  have lt1:i < its.toArray.size:=by
   have:=(List.getElem?_eq_some_iff.mp hu).1
   simpa using this
  have lt2:i < its'.toArray.size:=by
   have:=(List.getElem?_eq_some_iff.mp hu').1
   simpa using this
  refine CJ Z (qB f hd i1 a n1 its.toArray) (qB g hd i2 c n2 its'.toArray) hz hTI hTO ⟨h1,p⟩ ⟨h2,p'⟩ lt1 lt2 fun x1 y1 h' tk px py hz' hTO' s1 s2 hT hk=>?_
  refine ⟨_,rfl,wpAny_letOwnedTupleGo_zip (s:={ s with heap:=h',toks:=tk }) hz' fun h'' hz'' hs''=>?_⟩
  have ex:x1=x':=by
   have h3:its[i]?=some x1:=by simpa using px
   rw [hu] at h3;exact (Option.some.inj h3).symm
  have ey:y1=y':=by
   have h3:its'[i]?=some y1:=by simpa using py
   rw [hu'] at h3;exact (Option.some.inj h3).symm
  subst ex ey
  have lt:∀ {b o},s.heap.get? b=some o->s.heap.objs.size≠b:=fun e=>Nat.ne_of_gt (Heap.lt_size e)
  have hTT:h''.IsTuple s.heap.objs.size #[x1,y1]:=⟨_,hs''.extBut _ _ (lt hz) hT,rfl,_,rfl⟩
  refine ⟨.ref s.heap.objs.size,upd H s.heap.objs.size (.tup [x,y]),nQ (s:=s) (h':=h'') (tk:=tk) (ch:=[z,TI,TO,i1,i2]) I hf (fun b o hb e=>?_) (Nat.le_refl _) ⟨by show 2<=sizeLine;decide,[x1,y1],.cons ru (.cons ru' .nil),hTT⟩,rfl,
   ⟨s.heap.objs.size,x,y,fun zs hz=>by rw [<- P9 I hqx hz];exact hx,fun zs hz=>by rw [<- P9 I hqy hz];exact hy,I.hok.fresh (Nat.le_refl _),rfl,rfl⟩,⟨hz'',?_,?_,?_,?_⟩,fun b hb=>?_⟩
  ·have hb':¬ (b=z\/b=TI\/b=TO\/b=i1\/b=i2):=by simpa using hb
   simp only [not_or] at hb'
   exact hs''.extBut _ _ hb'.1 (hk b o hb'.1 hb'.2.2.1 hb'.2.2.2.1 hb'.2.2.2.2 e)
  ·exact hs''.extBut _ _ Z.TIz (hk _ _ Z.TIz Z.TITO Z.TIi1 Z.TIi2 hTI)
  ·exact ⟨_,_,hs''.extBut _ _ Z.TOz hTO'⟩
  ·exact s1.1.at fun o e=>hs''.extBut _ _ Z.i1z e
  ·exact s2.1.at fun o e=>hs''.extBut _ _ Z.i2z e
  ·rw [cF (fun e=>?_)]
   ·exact (hf b hb).1
   ·have:b=z\/b=TI\/b=TO\/b=i1\/b=i2:=by simpa using hb
    obtain ⟨o1,e1,_⟩:=h1.obj
    obtain ⟨o2,e2,_⟩:=h2.obj
    rcases this with rfl | rfl | rfl | rfl | rfl
    ·exact lt hz e.symm
    ·exact lt hTI e.symm
    ·exact lt hTO e.symm
    ·exact lt e1 e.symm
    ·exact lt e2 e.symm
 done:=by
  intro X hP hw hK hc i pins s σ H E I hf st hg
  subst hP hw hK
  obtain ⟨hz,hTI,⟨u,v,hTO⟩,h1,h2⟩:=st
  obtain ⟨xs,ys,hqx,hqy,hi⟩:=hg
  obtain ⟨its,rv,p,_⟩:=AB I hqx
  obtain ⟨its',rv',p',_⟩:=AB I hqy
  have Z:=NM hz q hTI hTO h1 h2 p p'
  have n1:a≠i1:=p.ne h1
  have n2:c≠i2:=p'.ne h2
  have hd:X.A.in1.handled=none:=I.ok.hd hc
  have hi':i=min its.toArray.size its'.toArray.size:=by rw [List.size_toArray,List.size_toArray,<- rv.length,<- rv'.length];exact hi
  refine Ee Z (qB f hd i1 a n1 its.toArray) (qB g hd i2 c n2 its'.toArray) hz hTI hTO ⟨h1,p⟩ ⟨h2,p'⟩ (by omega) hi' fun h' tk hk=>⟨rfl,?_⟩
  have kk:∀ b o,b ∉ [z,TI,TO,i1,i2]->s.heap.get? b=some o->h'.get? b=some o:=fun b o hb e=>by
   have hb':¬ (b=z\/b=TI\/b=TO\/b=i1\/b=i2):=by simpa using hb
   simp only [not_or] at hb'
   exact hk b o hb'.1 hb'.2.2.1 hb'.2.2.2.1 hb'.2.2.2.2 e
  have:=I.call' (ch:=[z,TI,TO,i1,i2]) (H':=H) (s':={ s with heap:=h',toks:=tk }) rfl ⟨fun b u q n hb hx=>kk b u hx q,fun b u q n hb hx=>⟨u.slots,kk b u hx q⟩,fun b u q n hx=>n,fun b u q hx=>⟨u,kk b u hx q⟩,fun b xs q=>q,fun b u xs q=>q,fun b ps q=>⟨#[],by rw [q];simp⟩⟩
   (fun a u e'=>?_) I.bare fun b hb=>⟨(hf b hb).2.2.2.1,(hf b hb).2.1,(hf b hb).2.2.2.2.1,(hf b hb).2.2.2.2.2⟩
  ·exact this
  ·refine (I.hok a u e').stay (fun b z hb q=>kk b z (fun hc=>?_) q) (fun _ q=>q) fun _ _ q=>q
   have hnone:=(hf b hc).1
   rcases hb with rfl | hb
   ·rw [hnone] at e';cases e'
   ·rw [hnone] at hb;cases hb
 self:=fun _ _ _ _ _ st h=>wpAny_pyIter_zip st.1 h
noncomputable abbrev Nz (f:Bool) (h:Heap) (a:Addr):Heap:=h.push { cls:=.type (wB f),data:=.fields #[.ref a,.int 0 0] }
noncomputable abbrev NF (f g:Bool) (h:Heap) (a c:Addr):Heap:=(Nz f h a).push { cls:=.type (wB g),data:=.fields #[.ref c,.int 0 0] }
noncomputable abbrev Nx (f g:Bool) (h:Heap) (a c:Addr):Heap:=(NF f g h a c).push { cls:=.type "tuple",data:=.seq #[.ref h.objs.size,.ref (Nz f h a).objs.size] }
noncomputable abbrev NC (f g:Bool) (h:Heap) (a c:Addr):Heap:=(Nx f g h a c).push { cls:=.type "tuple",data:=.seq #[.none,.none] }
noncomputable abbrev F8 (f g:Bool) (h:Heap) (a c:Addr):Heap:=(NC f g h a c).push { cls:=.type "zip",data:=.fields #[.none,.bool false,.bool false,.ref (NF f g h a c).objs.size,.ref (Nx f g h a c).objs.size] }
theorem lF.push {f:Bool} {h:Heap} {a:Addr} {xs:Array Value} (p:lF f h a xs) (o:Obj):lF f (h.push o) a xs:=by
 obtain ⟨o',n,e,c,d⟩:=p.obj
 cases f <;> exact ⟨o',Heap.get?_push_of_some _ e,c,n,d⟩
theorem Kx {prog:Program} {w:World} {A:Around} {E:Value->Shared->Prop} {s:Shared} {f:Bool} {l:Addr} {items:Array Value} {Q:Value->Shared->Prop} (hl:lF f s.heap l items)
  (hQ:Q (.ref s.heap.objs.size) { s with heap:=s.heap.push { cls:=.type (wB f),data:=.fields #[.ref l,.int 0 0] } }):wpAny (model prog w) A (pyIter (.ref l)) Q E s:=by
 cases f
 ·exact wpAny_pyIter_tuple hl hQ
 ·exact wpAny_pyIter_list hl hQ
theorem Ho (f g:Bool) (a c:Addr) (xs ys:Array Value) :
  Meets (Builtin.«zip.__new__» ⟨[.type "zip",.ref a,.ref c],[]⟩) (fun _ R s=>lF f s.heap a xs/\lF g s.heap c ys /\
   R (.ok (.ret (.ref (NC f g s.heap a c).objs.size))) { s with heap:=F8 f g s.heap a c }) :=
 .of_wp fun prog w A R s h=>by
  obtain ⟨hp,g',d,tk,os⟩:=s;obtain ⟨h1,h2,h⟩:=h
  have hsub:=sub_zip
  have hL1:lF f (Shared.heap ⟨hp,g',d,tk,os⟩) a xs:=h1
  have hL2:lF g (Shared.heap ⟨hp.push { cls:=.type (wB f),data:=.fields #[.ref a,.int 0 0] },g',d,tk,os⟩) c ys:=h2.push _
  wp_walk using Kx hL1,Kx hL2
  exact ⟨_,rfl,h⟩
theorem JZ {f g:Bool} {prog:Program} {w:World} {A:Around} {E:Value->Shared->Prop} {s:Shared} {a c:Addr} {xs ys:Array Value} {Q:Value->Shared->Prop} (h1:lF f s.heap a xs) (h2:lF g s.heap c ys)
  (h:∀ h',IsZip h' (s.heap.objs.size + 4) (s.heap.objs.size + 2) (s.heap.objs.size + 3) .none->IsPair h' (s.heap.objs.size + 2) (.ref s.heap.objs.size) (.ref (s.heap.objs.size + 1)) ->
   IsPair h' (s.heap.objs.size + 3) .none .none->mX f h' s.heap.objs.size a 0->mX g h' (s.heap.objs.size + 1) c 0 ->
   (∀ b o,s.heap.get? b=some o->h'.get? b=some o)->Q (.ref (s.heap.objs.size + 4)) { s with heap:=h' }) :
  wpAny (model prog w) A (call (.type "zip") [.ref a,.ref c]) Q E s:=by
 refine callType_new PySem.F.called_zip (by decide) (PySem.F.typeCall_zip_2 _ _) (PySem.F.newCall_zip_2 _ _) (fun obj=>PySem.F.args_object_init_3 obj _ _) PySem.F.entry_zip_new
  (Ho f g a c xs ys) ⟨h1,h2,?_⟩
 have z1:(Nz f s.heap a).objs.size=s.heap.objs.size + 1:=Heap.size_push ..
 have z2:(NF f g s.heap a c).objs.size=s.heap.objs.size + 2:=by rw [Heap.size_push,z1]
 have z3:(Nx f g s.heap a c).objs.size=s.heap.objs.size + 3:=by rw [Heap.size_push,z2]
 have z4:(NC f g s.heap a c).objs.size=s.heap.objs.size + 4:=by rw [Heap.size_push,z3]
 have g5:(F8 f g s.heap a c).get? (NC f g s.heap a c).objs.size=some _:=Heap.get?_push_size _ rfl
 have g4:(F8 f g s.heap a c).get? (Nx f g s.heap a c).objs.size=some _:=Heap.get?_push_of_some _ (Heap.get?_push_size _ rfl)
 have g3:(F8 f g s.heap a c).get? (NF f g s.heap a c).objs.size=some _:=Heap.get?_push_of_some _ (Heap.get?_push_of_some _ (Heap.get?_push_size _ rfl))
 have g2:(F8 f g s.heap a c).get? (Nz f s.heap a).objs.size=some _:=Heap.get?_push_of_some _ (Heap.get?_push_of_some _ (Heap.get?_push_of_some _ (Heap.get?_push_size _ rfl)))
 have g1:(F8 f g s.heap a c).get? s.heap.objs.size=some _:=Heap.get?_push_of_some _ (Heap.get?_push_of_some _ (Heap.get?_push_of_some _ (Heap.get?_push_of_some _ (Heap.get?_push_size _ rfl))))
 show _/\_
 rw [z2,z3,z4] at g5
 rw [z1,z2] at g3
 rw [z3] at g4
 rw [z1] at g2
 rw [z4]
 exact ⟨⟨_,g5,rfl⟩,h _ g5 g3 g4 (.of g1 rfl rfl) (.of g2 rfl rfl) fun b o x =>
  Heap.get?_push_of_some _ (Heap.get?_push_of_some _ (Heap.get?_push_of_some _ (Heap.get?_push_of_some _ (Heap.get?_push_of_some _ x))))⟩
noncomputable def Mb (f g:Bool) (K:PySem.W.Frag) (ta:TA):TI:=fun σ H R=>ta σ H fun vs H1=>∃ a c,vs=[.ref a,.ref c]/\(∃ xs,pJ f K H1 a xs)/\(∃ ys,pJ g K H1 c ys)/\R (P7 f g K a c) H1
theorem Jw {f g:Bool} {X:Cx} {elts:List Expr} {kk:Nat} {tpos:Pos} {a b:Expr} {ta:TA} {p pos:Pos} (hg:Gl X "zip") (hm:X.mg "zip"=none) (ha:PA X [a,b] ta) (hs:starEach [a,b] X.env=[(false,eval a X.env),(false,eval b X.env)]) (hs2:starEach [b] X.env=[(false,eval b X.env)]) :
  PI X (.Tuple elts kk tpos) (.Call (.Name "zip" p) [a,b] [] pos) (Mb f g X.K ta):=by
 intro pins s σ H R I h
 refine Call_ (lX I hg hm boot_zip (PyProof.Rows.callWith_type1 (bR (ha pos pins s σ H _ I h) fun us s1 ⟨vs,H1,I1,r1,q1⟩=>?_) (by rw [hs,hs2]) (by rw [hs2];rfl)))
 obtain ⟨a,c,e,⟨xs,hq⟩,⟨ys,hq'⟩,q⟩:=q1
 subst e
 cases r1 with
 | cons r rr =>
  cases rr with
  | cons r' rr =>
   cases rr
   cases r
   cases r'
   obtain ⟨its,rv,p,hz⟩:=AB I1 hq
   obtain ⟨its',rv',p',hz'⟩:=AB I1 hq'
   have la:a < s1.heap.objs.size:=by obtain ⟨_,_,e,_⟩:=p.obj;exact Heap.lt_size e
   have lc:c < s1.heap.objs.size:=by obtain ⟨_,_,e,_⟩:=p'.obj;exact Heap.lt_size e
   refine JZ p p' fun h' hz hTI hTO h1 h2 hk=>?_
   refine wpAny_pyIter_zip (s:={ s1 with heap:=h' }) hz ?_
   have I2:L2.Inv X pins σ H1 { s1 with heap:=h',toks:=s1.toks }:=I1.kept hk
   refine ⟨_,_,_,_,H1,rfl,I2,MZ f g a c (s1.heap.objs.size + 4) (s1.heap.objs.size + 2) (s1.heap.objs.size + 3) s1.heap.objs.size (s1.heap.objs.size + 1) ⟨Nat.ne_of_lt (Nat.lt_succ_self _),Nat.ne_of_lt (Nat.lt_succ_self _),Nat.ne_of_gt (Nat.lt_of_lt_of_le la (Nat.le_add_right _ _)),Nat.ne_of_gt (Nat.lt_of_lt_of_le lc (Nat.le_add_right _ _))⟩,⟨hz,hTI,⟨_,_,hTO⟩,h1,h2⟩,fun b hb=>?_,q⟩
   have le:s1.heap.objs.size<=b:=by
    have:b=s1.heap.objs.size + 4\/b=s1.heap.objs.size + 2\/b=s1.heap.objs.size + 3\/b=s1.heap.objs.size\/b=s1.heap.objs.size + 1:=by simpa using hb
    rcases this with e | e | e | e | e <;> rw [e]
    ·exact Nat.le_add_right _ _
    ·exact Nat.le_add_right _ _
    ·exact Nat.le_add_right _ _
    ·exact Nat.le_refl _
    ·exact Nat.le_add_right _ _
   exact I1.fpOk le (I1.hok.fresh le)
noncomputable def eZ:List U->List U->List U
 | u :: us,w :: ws=>.tup [u,w] :: eZ us ws
 | _,_=>[]
theorem v5:∀ us ws:List U,(eZ us ws).length=min us.length ws.length
 | [],ws=>by simp [eZ]
 | _ :: _,[]=>by simp [eZ]
 | u :: us,w :: ws=>by simp only [eZ,List.length_cons,v5 us ws];omega
theorem uM:∀ {us ws:List U} {i:Nat} {x:U},(eZ us ws)[i]?=some x->∃ u w,us[i]?=some u/\ws[i]?=some w/\x=.tup [u,w]
 | [],ws,i,x,h=>by simp [eZ] at h
 | _ :: _,[],i,x,h=>by simp [eZ] at h
 | u :: us,w :: ws,0,x,h=>by simp [eZ] at h;exact ⟨u,w,rfl,rfl,h.symm⟩
 | u :: us,w :: ws,i + 1,x,h=>by
  simp only [eZ,List.getElem?_cons_succ] at h ⊢
  exact uM h
theorem DQ {f g:Bool} {K:PySem.W.Frag} {a c:Addr} {us ws:List U} {vs xs:List V} {H:Hp} {M:aH} (m:Kj f K H M a vs) (m':Kj g K H M c xs) (r:aM K H M us vs) (r':aM K H M ws xs):Walk K (P7 f g K a c) ⟨none,eZ us ws⟩ H M:=by
 refine ⟨fun H1 M1 s rm _ i u e=>?_,fun H1 M1 s rm _=>⟨vs,xs,m _ _ s,m' _ _ s,by show (eZ us ws).length=_;rw [v5,r.length,r'.length]⟩⟩
 obtain ⟨u,w,e1,e1',rfl⟩:=uM e
 obtain ⟨v,e2,ru⟩:=r.get e1
 obtain ⟨x,e2',ru'⟩:=r'.get e1'
 refine ⟨⟨vs,xs,v,x,m _ _ s,m' _ _ s,e2,e2'⟩,fun y H2 y'=>?_⟩
 obtain ⟨p,v',x',y1,y2,hp,rfl,rfl⟩:=y'
 have:=y1 vs (m _ _ s)
 rw [e2] at this;cases this
 have:=y2 xs (m' _ _ s)
 rw [e2'] at this;cases this
 have st:=bA.laid (o:=.tup [v,x]) rm hp
 have rr:aM K H1 M1 [u,w] [v,x]:=by
  simp only [aM]
  exact ⟨_,_,rfl,ru.stp s,_,_,rfl,ru'.stp s,rfl⟩
 exact ⟨st,rm.laid hp,vX (rm.no hp) c5 (rr.stp st)⟩
noncomputable def sH (ta:UA):UI:=fun τ M R=>ta τ M fun us M1=>match us with
 | [.tup us,.tup ws]=>R ⟨none,eZ us ws⟩ M1
 | _=>False
theorem OB {K:PySem.W.Frag} {ta:TA} {ta':UA} (h:lK K ta ta'):nU K (Mb false false K ta) (sH ta'):=fun σ τ H M R' rs rm q R c=>h σ τ H M _ rs rm q _ fun us vs M1 H1 s1 rm1 ru h1=>by
 split at h1
 ·obtain ⟨v,vs',rfl,a,b⟩:=ru.inv_cons
  obtain ⟨v2,rfl,a2⟩:=b.one
  simp only [aQ] at a a2
  obtain ⟨a,vs,rfl,m,r⟩:=a
  obtain ⟨a',vs',rfl,m',r'⟩:=a2
  exact ⟨a,a',rfl,⟨vs,KO m _ _ (bA.refl _ _)⟩,⟨vs',KO m' _ _ (bA.refl _ _)⟩,c _ _ M1 H1 s1 rm1 (DQ (KO m) (KO m') r r') h1⟩
 ·exact h1.elim
theorem Rp {D:Dat} {elts:List Expr} {kk:Nat} {tpos:Pos} {a b:Expr} {p pos:Pos} {ta:UA} (hm:D.mg "zip"=none) (ha:m9 D [a,b] ta) (hg:D.sc.names.lookup ("zip":Str)=some .globalImplicit:=by rfl) (hs:∀ env,starEach [a,b] env=[(false,eval a env),(false,eval b env)]:=by intro _;rfl) (hs2:∀ env,starEach [b] env=[(false,eval b env)]:=by intro _;rfl):rJ D (.Tuple elts kk tpos) (.Call (.Name "zip" p) [a,b] [] pos) (sH ta):=by
 obtain ⟨_,q,s⟩:=ha
 exact ⟨_,fun X h=>h.K ▸ Jw (by show X.env.scope.names.lookup _=_;rw [h.sc];exact hg) (by rw [h.mg];exact hm) (q X h) (hs _) (hs2 _),OB s⟩
noncomputable def bE (ta:UA):UI:=fun τ M R=>ta τ M fun us M1=>match us with
 | [.tup us,.lst ws]=>R ⟨none,eZ us ws⟩ M1
 | _=>False
noncomputable def dF (ta:UA):UI:=fun τ M R=>ta τ M fun us M1=>match us with
 | [.lst us,.lst ws]=>R ⟨none,eZ us ws⟩ M1
 | _=>False
theorem K1 {K:PySem.W.Frag} {ta:TA} {ta':UA} (h:lK K ta ta'):nU K (Mb true true K ta) (dF ta'):=fun σ τ H M R' rs rm q R c=>h σ τ H M _ rs rm q _ fun us vs M1 H1 s1 rm1 ru h1=>by
 split at h1
 ·obtain ⟨v,vs',rfl,a,b⟩:=ru.inv_cons
  obtain ⟨v2,rfl,a2⟩:=b.one
  simp only [aQ] at a a2
  obtain ⟨a,vs,rfl,m,r⟩:=a
  obtain ⟨a',vs',rfl,m',r'⟩:=a2
  exact ⟨a,a',rfl,⟨vs,J9 m _ _ (bA.refl _ _)⟩,⟨vs',J9 m' _ _ (bA.refl _ _)⟩,c _ _ M1 H1 s1 rm1 (DQ (J9 m) (J9 m') r r') h1⟩
 ·exact h1.elim
theorem MM {D:Dat} {elts:List Expr} {kk:Nat} {tpos:Pos} {a b:Expr} {p pos:Pos} {ta:UA} (hm:D.mg "zip"=none) (ha:m9 D [a,b] ta) (hg:D.sc.names.lookup ("zip":Str)=some .globalImplicit:=by rfl) (hs:∀ env,starEach [a,b] env=[(false,eval a env),(false,eval b env)]:=by intro _;rfl) (hs2:∀ env,starEach [b] env=[(false,eval b env)]:=by intro _;rfl):rJ D (.Tuple elts kk tpos) (.Call (.Name "zip" p) [a,b] [] pos) (dF ta):=by
 obtain ⟨_,q,s⟩:=ha
 exact ⟨_,fun X h=>h.K ▸ Jw (by show X.env.scope.names.lookup _=_;rw [h.sc];exact hg) (by rw [h.mg];exact hm) (q X h) (hs _) (hs2 _),K1 s⟩
end U2
namespace U2
open PySem PySem.Spec PyProof.Rows L2
theorem CC (l:Addr) (items:Array Value) (n:Nat) (b:Addr) (items2:Array Value) (n2:Nat) (dd:Option Addr) (sl:Array (Option Value)) (hc0:¬(!items.isEmpty && Builtin.List.listTooLong (items.size + items2.size))=true) (hc1:items.size<=sizeLine) (hs2:items.size + items2.size<=sizeLine + 1) :
  Meets (Builtin.«list.extend» ⟨[.ref l,.ref b],[]⟩) (fun _ R s=>s.heap.get? l=some { cls:=.type "list",dict:=none,data:=.seq items n,slots:=#[] }/\s.heap.get? b=some { cls:=.type "list",dict:=dd,data:=.seq items2 n2,slots:=sl }/\R (.ok (.ret Value.none)) { s with heap:=s.heap.update l (Obj.mapSeq fun x=>x++items2),toks:=s.toks }) :=
 .of_wp fun prog w A R s h=>by
  obtain ⟨hp,g,d,tk,os⟩:=s;obtain ⟨hl,hb,h⟩:=h
  have f1:=PySem.AutoSeq1.idx_int;have f2:=PySem.AutoSeq1.sub_tuple_tuple;have f3:=PySem.AutoSeq1.sub_list_list;have f4:=PySem.AutoSeq1.sub_tuple_list;have f5:=PySem.AutoSeq1.sub_list_tuple
  have hz':(items++items2).size<=sizeLine + 1:=by rw [Array.size_append];exact hs2
  wp_walk using (wpAny_updateSeq hl rfl (hz:=hc1) (_hz':=hz')),wpAny_loadPart' hl,wpAny_loadPart' hb
  exact ⟨_,rfl,h⟩
theorem G3 {X:Cx}:Nr X "list.extend" (EC X.K):=by
 intro pins s σ H x vs v us Q I rx rv h
 obtain ⟨l,b,xs,zs,rfl,rfl,hH,hB,hz,q⟩:=h
 cases rx
 obtain ⟨u,rfl,ru⟩:=rv.one
 cases ru
 obtain ⟨z,its,n,r,hl,e⟩:=I.lstM hH
 obtain ⟨its2,r2,⟨⟨oc,od,odt,osl⟩,n2,e2,hc,hd,hdt⟩,hl2⟩:=I.list hB
 have hc':oc=.type "list":=hc
 have hdt':odt=.seq its2.toArray n2:=hdt
 subst hc' hdt'
 have l2:=r2.length
 have hsz:its.toArray.size + its2.toArray.size<=sizeLine:=by rw [List.size_toArray,List.size_toArray];omega
 have hlong:¬ (!its.toArray.isEmpty && Builtin.List.listTooLong (its.toArray.size + its2.toArray.size))=true:=by
  rw [uJ hsz,Bool.and_false]
  exact Bool.false_ne_true
 refine call_meets PySem.F.slot_list_extend ⟨_,e,rfl⟩ PySem.F.entry_list_extend (PySem.F.args_list_extend_2 _ _)
  (CC l its.toArray n b its2.toArray n2 od osl hlong (by rw [List.size_toArray];omega) (by omega)) ⟨e,e2,?_⟩
 refine ⟨.non,_,I.lset (its':=its++its2) hH e (by simp) (r.append r2) ?_,rfl,q⟩
 rw [List.length_append]
 omega
variable {D:Dat} {o e:Expr} {ta:UE} {tas:UA} {pos:Pos}
theorem B1 {apos:Pos} (ho:bG D o ta) (ha:m9 D [e] tas) (hbase:∀ env,attributeBase o "extend" env (eval o env)=eval o env:=by intro _;rfl)
  (hfew:∀ env,((backTo pos (starEach [e] env)).all (fun x=>!x.1) && (backToKw pos (keywordEach [] env)).all (fun x=>x.1.isSome) && decide ([e].length + ([]:List Keyword).length + (if ([]:List Keyword).isEmpty then 0 else 1) < 30))=true:=by intro _;rfl)
  (hline:(apos.endLine == pos.line)=true:=by rfl) (hs:∀ env,starEach [e] env=[(false,eval e env)]:=by intro _;rfl):bG D (.Call (.Attribute o "extend" apos) [e] [] pos) (wF jS ta tas):=by
 obtain ⟨_,p,s⟩:=ho;obtain ⟨_,q,r⟩:=ha
 refine ⟨_,fun X h=>?_,D3 HQ s r⟩
 have:=HD (cpos:=pos) (apos:=apos) PySem.F.plainAttrs_list PySem.F.slot_list_extend PySem.F.type_list_extend G3 (p X h) (q X h) (hbase _) (hfew _) hline (hs _) (by rfl)
 rw [h.K] at this
 exact this
end U2
namespace U2
open PySem PySem.Spec PyProof.Rows L2
noncomputable def intsOf:List U->Option (List Int)
 | []=>some []
 | .int i :: us=>(intsOf us).map (i :: ·)
 | _ :: _=>none
theorem kZ {K:PySem.W.Frag} {H:Hp} {M:aH}:∀ {us:List U} {vs:List V} {xs:List Int},aM K H M us vs->intsOf us=some xs->vs=xs.map V.int
 | [],vs,xs,r,e=>by cases e;exact r.inv_nil
 | u :: us,vs,xs,r,e=>by
  obtain ⟨v,vs',rfl,a,b⟩:=r.inv_cons
  cases u with
  | int i =>
   simp only [intsOf] at e
   cases e2:intsOf us with
   | none=>rw [e2] at e;cases e
   | some ys=>rw [e2] at e;cases e;rw [a.int,kZ b e2];rfl
  | _=>cases e
noncomputable def tP:fF:=fun x y M Q=>match x,y with
 | .int i,.int j=>Q (.bl (decide (i < j))) M
 | .tup us,.tup ws=>∃ xs ys,intsOf us=some xs/\intsOf ws=some ys/\Q (.bl (HT.lexLt xs ys)) M
 | _,_=>False
variable {D:Dat}
theorem Aq:t6 D .Lt tP:=⟨⟨_,fun X h=>h.K ▸ R8.or (RP h.room.units0),fun x y u w H M Q' rm ru rw h Q c=>by
 unfold tP at h
 split at h
 ·rename_i i j
  exact .inl (rX (f:=fun i j=>decide (i < j)) x y (.int i) (.int j) H M Q' rm ru rw h Q c)
 ·rename_i us ws
  obtain ⟨xs,ys,e1,e2,q⟩:=h
  obtain ⟨a,vs,rfl,s1,r1⟩:=ru.tup
  obtain ⟨a',vs',rfl,s2,r2⟩:=rw.tup
  cases kZ r1 e1
  cases kZ r2 e2
  exact .inr ⟨a,a',xs,ys,rfl,rfl,s1,s2,c.here rm iR q⟩
 ·exact h.elim⟩⟩
end U2
namespace U2
open PySem PySem.Spec PyProof.Rows L2
noncomputable def o7:Int->List Int->Int
 | m,[]=>m
 | m,n :: ns=>o7 (if n > m then n else m) ns
theorem Gg:∀ (ns:List Int) (m:Int),m<=o7 m ns/\∀ n∈ns,n<=o7 m ns
 | [],m=>⟨Int.le_refl _,fun n h=>by cases h⟩
 | k :: ns,m=>by
  obtain ⟨h1,h2⟩:=Gg ns (if k > m then k else m)
  have hk:m<=(if k > m then k else m)/\k<=(if k > m then k else m):=by split <;> omega
  simp only [o7]
  refine ⟨by omega,fun n hn=>?_⟩
  rcases List.mem_cons.mp hn with rfl | hn
  ·omega
  ·exact h2 n hn
theorem DI:∀ (ns:List Int) (m:Int),o7 m ns=m\/o7 m ns∈ns
 | [],m=>.inl rfl
 | k :: ns,m=>by
  simp only [o7]
  rcases DI ns (if k > m then k else m) with h | h
  ·by_cases hk:k > m
   ·rw [if_pos hk] at h ⊢;exact .inr (by rw [h];exact List.mem_cons_self)
   ·rw [if_neg hk] at h ⊢;exact .inl h
  ·exact .inr (List.mem_cons_of_mem _ h)
theorem N3 {m M:Int} {ns:List Int} (h1:M=m\/M∈ns) (h2:m<=M) (h3:∀ n∈ns,n<=M):o7 m ns=M:=by
 obtain ⟨g1,g2⟩:=Gg ns m
 rcases DI ns m with e | e
 ·rcases h1 with rfl | h1
  ·exact e
  ·have:=g2 M h1;omega
 ·have:=h3 _ e
  rcases h1 with rfl | h1
  ·omega
  ·have:=g2 M h1;omega
section
variable {X:Cx}
theorem JW (hc:X.calm=true):h8 X (.builtin "max") (fun xs H Q=>∃ p m ns,xs=[.ref p]/\eT X.K H p ((m :: ns).map V.int)/\Q (.int (o7 m ns)) H):=by
 intro pins s σ H xs us Q I r h
 obtain ⟨p,m,ns,rfl,hq,q⟩:=h
 obtain ⟨u,rfl,rx⟩:=vals1 r
 cases rx
 obtain ⟨its,r',pl,hz⟩:=I.list hq
 have hi:IntsAre its (m :: ns):=intsAre_of r'
 obtain ⟨ys,e⟩:=hi.allInts.items
 have hns:(m :: ns)=ys.toList.map (·.1):=by
  rw [<- hi.numsOf,<- nums_intItems,<- e]
 have hsz:0 < ys.size:=by
  have h3:ns.length + 1=ys.size:=by have:=congrArg List.length hns;simpa using this
  omega
 have hl:=pl.isList
 rw [e] at hl
 refine max_intList (I.ok.hd hc) hl hsz fun v h' tk hv hk=>?_
 obtain ⟨t,rfl⟩:=intItems_at hv
 obtain ⟨h1,h2⟩:=argBest_gt (numAt ys) (ys.size - 1)
 have hM:o7 m ns=numAt ys (argBest (fun i j=>decide (numAt ys i > numAt ys j)) (ys.size - 1)):=by
  have hin:numAt ys (argBest (fun i j=>decide (numAt ys i > numAt ys j)) (ys.size - 1))∈m :: ns:=by
   rw [hns,numAt_eq];exact getD_mem (by rw [List.length_map,Array.length_toList];omega)
  have hge:∀ a∈m :: ns,a<=numAt ys (argBest (fun i j=>decide (numAt ys i > numAt ys j)) (ys.size - 1)):=fun a ha=>by
   rw [hns] at ha
   obtain ⟨j,hj,rfl⟩:=mem_getD ha
   rw [List.length_map,Array.length_toList] at hj
   rw [<- numAt_eq];exact h2 j (by omega)
  exact N3 (List.mem_cons.mp hin) (hge m List.mem_cons_self) fun n hn=>hge n (List.mem_cons_of_mem _ hn)
 exact ⟨.int (o7 m ns),H,I.kept hk,⟨t,by rw [hM]⟩,q⟩
theorem JS (hc:X.calm=true):h8 X (.builtin "sum") (fun xs H Q=>∃ p ns,xs=[.ref p]/\eT X.K H p (ns.map V.int)/\PySem.SumFits ns/\Q (.int ns.sum) H):=by
 intro pins s σ H xs us Q I r h
 obtain ⟨p,ns,rfl,hq,hf,q⟩:=h
 obtain ⟨u,rfl,rx⟩:=vals1 r
 cases rx
 obtain ⟨its,r',pl,hz⟩:=I.list hq
 have hi:IntsAre its ns:=intsAre_of r'
 obtain ⟨ys,e⟩:=hi.allInts.items
 have hns:ns=ys.toList.map (·.1):=by
  rw [<- hi.numsOf,<- nums_intItems,<- e]
 have hl:=pl.isList
 rw [e] at hl
 subst hns
 refine sum_intList (I.ok.hd hc) hl (fun j hj=>?_) fun h' tk t' hk=>?_
 ·rw [numAt_eq,preSum_eq];exact hf j (by simpa using hj)
 ·refine ⟨.int _,H,I.kept hk,⟨t',?_⟩,q⟩
  rw [preSum_eq,List.take_of_length_le (by simp)]
noncomputable def tG:List U->aH->UK->Prop:=fun us M Q=>match us with
 | [x]=>match view M x with
  | .lst ws=>∃ ns,intsOf ws=some ns/\PySem.SumFits ns/\Q (.int ns.sum) M
  | _=>False
 | _=>False
theorem NA {D:Dat}:rM D (.builtin "sum") tG:=⟨⟨_,fun X h=>by
  have:=(JS (X:=X) h.calm);rw [h.K] at this;exact this,fun xs us H M Q' rm rus h Q c=>by
 unfold tG at h
 split at h
 ·rename_i x
  obtain ⟨v,rfl,a1⟩:=rus.one
  split at h
  ·rename_i ws e
   obtain ⟨ns,e2,hf,q⟩:=h
   obtain ⟨b,zvs,rfl,s2,r2⟩:=fK rm a1 e
   rw [kZ r2 e2] at s2
   exact ⟨b,ns,rfl,s2,hf,c.here rm dI q⟩
  ·exact h.elim
 ·exact h.elim⟩⟩
noncomputable def qV:List U->aH->UK->Prop:=fun us M Q=>match us with
 | [.int i,.int j]=>Q (.int (if j > i then j else i)) M
 | [x]=>match view M x with
  | .lst ws=>∃ m ns,intsOf ws=some (m :: ns)/\Q (.int (o7 m ns)) M
  | _=>False
 | _=>False
theorem wR {D:Dat}:rM D (.builtin "max") qV:=⟨⟨_,fun X h=>by
  have:=(K0 (X:=X) h.calm).or (JW h.calm);rw [h.K] at this;exact this,fun xs us H M Q' rm rus h Q c=>by
 unfold qV at h
 split at h
 ·rename_i i j
  obtain ⟨v,z,rfl,a1,a2⟩:=rus.two
  cases a1.int;cases a2.int
  exact .inl ⟨i,j,rfl,c.here rm dI h⟩
 ·rename_i x
  obtain ⟨v,rfl,a1⟩:=rus.one
  split at h
  ·rename_i ws e
   obtain ⟨m,ns,e2,q⟩:=h
   obtain ⟨b,zvs,rfl,s2,r2⟩:=fK rm a1 e
   rw [kZ r2 e2] at s2
   exact .inr ⟨b,m,ns,rfl,s2,c.here rm dI q⟩
  ·exact h.elim
 ·exact h.elim⟩⟩
end
end U2
namespace U2
open PySem PySem.Spec PyProof.Rows L2
section
variable {D:Dat} {a b c e o i:Expr} {ta tb tc te to ti:UE} {pos p:Pos} {es:List Expr} {tas:UA} {x:Str}
noncomputable def rS (te to ti:UE):US:=fun D τ M=>te τ M fun v M1=>to τ M1 fun x M2=>ti τ M2 fun y M3=>match x,y with
 | .ref a,.int k=>match M3 a with
  | some (.lst us)=>∃ j,oV us.length k=some j/\D.nx τ (mup M3 a (.lst (us.set j v)))
  | _=>False
 | _,_=>False
noncomputable def aW:U->List U->aH->UK->Prop:=fun x ws M Q=>match x,ws with
 | .ref a,[.int i]=>match M a with
  | some (.lst us)=>-(2 ^ 63)<=i/\i < 2 ^ 63/\∃ k y,seqIndex? i us.length=some k/\us[k]?=some y/\Q y (mup M a (.lst (us.eraseIdx k)))
  | _=>False
 | _,_=>False
theorem Jx {K:PySem.W.Frag}:yL K Jm aW:=fun x xs u us H M Q' rm ru rus h Q c=>by
 unfold aW at h
 split at h
 ·rename_i a i
  split at h
  ·rename_i ws e
   obtain ⟨h1,h2,k,y,h3,h4,q⟩:=h
   obtain ⟨vs,hv,r⟩:=rm a _ e
   obtain ⟨v,rfl,a1⟩:=rus.one
   cases ru.ref
   cases a1.int
   obtain ⟨v,h5,h6⟩:=r.get h4
   exact ⟨a,vs,i,k,v,rfl,rfl,hv,h1,h2,by rw [<- r.length];exact h3,h5,c.write rm e (r.eraseIdx k) h6 q⟩
  ·exact h.elim
 ·exact h.elim
theorem vS {apos:Pos} (ho:bG D o ta) (ha:m9 D [e] tas) (hbase:∀ env,attributeBase o "pop" env (eval o env)=eval o env:=by intro _;rfl)
  (hfew:∀ env,((backTo pos (starEach [e] env)).all (fun x=>!x.1) && (backToKw pos (keywordEach [] env)).all (fun x=>x.1.isSome) && decide ([e].length + ([]:List Keyword).length + (if ([]:List Keyword).isEmpty then 0 else 1) < 30))=true:=by intro _;rfl)
  (hline:(apos.endLine == pos.line)=true:=by rfl) (hs:∀ env,starEach [e] env=[(false,eval e env)]:=by intro _;rfl):bG D (.Call (.Attribute o "pop" apos) [e] [] pos) (wF aW ta tas):=by
 obtain ⟨_,p,s⟩:=ho;obtain ⟨_,q,r⟩:=ha
 refine ⟨_,fun X h=>?_,D3 Jx s r⟩
 have:=HD (cpos:=pos) (apos:=apos) PySem.F.plainAttrs_list PySem.F.slot_list_pop PySem.F.type_list_pop L1 (p X h) (q X h) (hbase _) (hfew _) hline (hs _) (by rfl)
 rw [h.K] at this
 exact this
noncomputable def tJ:List U->aH->UK->Prop:=fun us M Q=>match us with
 | [.int i]=>Q (.int i) M
 | [.bl k]=>Q (.int (if k then 1 else 0)) M
 | _=>False
theorem Sn:rM D (.type "int") tJ:=⟨⟨_,fun X h=>K5,fun xs us H M Q' rm rus h Q c=>by
 unfold tJ at h
 split at h
 ·rename_i j
  obtain ⟨v,rfl,a⟩:=rus.one
  cases a.int
  exact .inl ⟨j,rfl,c.here rm dI h⟩
 ·rename_i j
  obtain ⟨v,rfl,a⟩:=rus.one
  cases a.bl
  exact .inr ⟨j,rfl,c.here rm dI h⟩
 ·exact h.elim⟩⟩
noncomputable def oF (i j:Int):Prop:=Lo i j\/(Builtin.Int.intBits i<=60000000/\Builtin.Int.intBits j<=60000000)
theorem oF.ok {i j:Int} (h:oF i j):IntMulOk i j:=by
 rcases h with h | ⟨h1,h2⟩
 ·exact h.ok
 ·exact IntMulOk.of_le h1 h2 (by decide)
theorem OG {X:Cx}:fE X (binaryOp .Mult) (rI oF fun i j=>.int (i * j)):=NI fun _ _ _ _ _ _ _ hc q=>mul_int q hc.ok
noncomputable def sJ (z:Str) (n:Int):Str:=if n < 1 then Str.empty else if (n == 1 || z.length == 0)=true then z else ⟨(List.replicate n.toNat z.cps).foldl (·++·) #[]⟩
theorem OX {X:Cx}:fE X (binaryOp .Mult) (fun x y H Q=>∃ z n,x=.str z/\y=.int n/\-(2 ^ 63)<=n/\n < 2 ^ 20/\z.length<=2 ^ 20/\z.length * n.toNat<=100000/\Q (.str (sJ z n)) H):=by
 intro pins s σ H x y v u Q I rx ry h
 obtain ⟨z,n,rfl,rfl,h1,h2,h3,h4,q⟩:=h
 obtain ⟨t,rfl⟩:=rx
 obtain ⟨t',rfl⟩:=ry
 have e1:(decide (n < -(2 ^ 63:Int)) || decide (n ≥ 2 ^ 63))=false:=by
  rw [decide_eq_false (by omega),decide_eq_false (by omega)];rfl
 refine PySem.P.mul_str e1 (fun g1 g2=>?_) (fun g1 g2=>?_) ?_
 ·intro hh
  have hn:(1:Int)<=n:=by omega
  have e3:(z.length:Int) * n=((z.length * n.toNat:Nat):Int):=by
   rw [Int.natCast_mul,Int.toNat_of_nonneg (by omega)]
  have:=Int.le_ediv_of_mul_le (show (0:Int) < n by omega) (show (z.length:Int) * n<=2 ^ 63 - 1 by rw [e3];omega)
  omega
 ·unfold Builtin.Str.tooLong sizeLine
  exact decide_eq_false (by omega)
 ·have hq:∀ (t2:Tok) k,EP X pins σ Q (.str (sJ z n) t2) { s with toks:=k }:=fun t2 k=>⟨.str (sJ z n),H,I.tok k,⟨t2,rfl⟩,q⟩
  unfold sJ at hq
  by_cases g1:n < 1
  ·rw [if_pos g1]
   simp only [if_pos g1] at hq
   exact ⟨by decide,hq _ _⟩
  ·rw [if_neg g1]
   simp only [if_neg g1] at hq
   by_cases g2:(n == 1 || z.length == 0)=true
   ·rw [if_pos g2]
    simp only [if_pos g2] at hq
    exact hq t s.toks
   ·rw [if_neg g2]
    simp only [if_neg g2] at hq
    refine ⟨?_,hq _ _⟩
    have hsz:∀ (k:Nat) (acc:Array Nat),((List.replicate k z.cps).foldl (·++·) acc).size=acc.size + k * z.cps.size:=by
     intro k
     induction k with
     | zero=>intro acc;simp
     | succ k ih=>intro acc;rw [List.replicate_succ,List.foldl_cons,ih,Array.size_append,Nat.succ_mul];omega
    show ((List.replicate n.toNat z.cps).foldl (·++·) #[]).size<=sizeLine
    rw [hsz]
    have h5:n.toNat * z.cps.size<=100000:=by rw [Nat.mul_comm];exact h4
    have:(100000:Nat)<=sizeLine:=by decide
    simp only [Array.size_empty,Nat.zero_add]
    omega
noncomputable def qN (o:Bool):fF:=fun x y M Q=>match x,y with
 | .int i,.int j=>oF i j/\Q (.int (i * j)) M
 | .str z,.int n=>-(2 ^ 63)<=n/\n < 2 ^ 20/\z.length<=2 ^ 20/\z.length * n.toNat<=100000/\Q (.str (sJ z n)) M
 | .ref a,.int k=>match M a with
  | some (.lst us)=>-(2 ^ 63)<=k/\k < 2 ^ 63/\us.length * k.toNat<=sizeLine/\jL o (List.replicate k.toNat us).flatten M Q
  | _=>False
 | _,_=>False
theorem aM.rep {K:PySem.W.Frag} {H:Hp} {M:aH} {us:List U} {vs:List V} (r:aM K H M us vs):∀ k:Nat,aM K H M (List.replicate k us).flatten (List.replicate k vs).flatten
 | 0=>by simp only [List.replicate_zero,List.flatten_nil];exact .nil
 | k + 1=>by simp only [List.replicate_succ,List.flatten_cons];exact r.append (aM.rep r k)
theorem Ox {K:PySem.W.Frag} {o:Bool}:gI K (fun x y H Q=>rI oF (fun i j=>.int (i * j)) x y H Q\/((∃ z n,x=.str z/\y=.int n/\-(2 ^ 63)<=n/\n < 2 ^ 20/\z.length<=2 ^ 20/\z.length * n.toNat<=100000/\Q (.str (sJ z n)) H)\/Qs x y H Q)) (qN o):=fun x y u w H M Q' rm ru rw h Q c=>by
 unfold qN at h
 split at h
 ·rename_i i j
  exact .inl (rZ (C:=oF) (f:=fun i j=>i * j) x y (.int i) (.int j) H M Q' rm ru rw h Q c)
 ·rename_i z n
  cases ru.str;cases rw.int
  exact .inr (.inl ⟨z,n,rfl,rfl,h.1,h.2.1,h.2.2.1,h.2.2.2.1,c.here rm nZ h.2.2.2.2⟩)
 ·rename_i a k
  split at h
  ·rename_i us e
   obtain ⟨vs,hv,r⟩:=rm a _ e
   cases ru.ref;cases rw.int
   exact .inr (.inr ⟨a,k,vs,rfl,rfl,hv,h.1,h.2.1,by rw [<- r.length];exact h.2.2.1,fun p hp=>c.lst rm (r.rep k.toNat) hp h.2.2.2⟩)
  ·exact h.elim
 ·exact h.elim
theorem gH (own:Bool:=false) (ha:bG D a ta) (hb:bG D b tb):bG D (.BinOp a .Mult b pos) (lH (qN own) ta tb):=yE (fun _ _=>OG.or (OX.or Q0)) Ox ha hb
noncomputable def C4 (_ j:Int):Prop:=0 < j/\j < 2 ^ 64
theorem Mf {X:Cx}:fE X (binaryOp .FloorDiv) (rI C4 fun i j=>.int (i / j)):=NI fun i j _ _ _ _ _ hc q=>by
 have h1:(0:Int) < j:=hc.1
 have h2:j.natAbs.log2 < 9000:=by
  have h3:j.natAbs < 2 ^ 64:=by have:=hc.2;omega
  by_cases h:j.natAbs=0
  ·rw [h];decide
  ·have:=(Nat.log2_lt h).mpr h3
   omega
 exact floordiv_int (by omega) (by rw [Int.fdiv_eq_ediv_of_nonneg i (by omega)];exact q) (.inl (PyProof.noPylong_of_log2 h2))
theorem dU (ha:bG D a ta) (hb:bG D b tb):bG D (.BinOp a .FloorDiv b pos) (lH (uI C4 fun i j=>.int (i / j)) ta tb):=yE (fun _ _=>Mf) rZ ha hb
end
end U2
namespace HT
open PySem PySem.Spec PyProof.Rows L2
variable {prog:Program} {w:World} {A:Around} {E:Value->Shared->Prop} {s:Shared}
theorem wI {t sl:Addr} {items:Array Value} {vl vu:Value} {lo hi:Option Int} {Q:Value->Shared->Prop} (ht:IsTup s.heap t items) (hs:s.heap.IsSliceOf sl vl vu .none) (pl:IsPart vl lo) (pu:IsPart vu hi)
  (hw:bW items.size 0 lo=0/\bW items.size items.size hi=items.size)
  (h:Q (.ref t) s):wpAny (model prog w) A (getItem (.ref t) (.ref sl)) Q E s:=by
 obtain ⟨os,hos,hcs,hds⟩:=id hs
 have hTs:s.TypeIs (.ref sl) "slice":=⟨os,hos,hcs⟩
 unfold getItem
 try with_reducible refine wpAny_holding ?_
 first | refine wpAny_bind (wpAny_pure ?_) | skip
 refine wpAny_bind (wpAny_sequenceKey ht.typeIs (by decide) ?_)
 refine wpAny_bind (wpAny_callSpecial?_slot (name:=Str.ofString "__getitem__") ht.typeIs PyProof.Rows.slot_tuple_getitem
  (wpAny_call_entry PyProof.Rows.slot_tuple_getitem ht.typeIs entry_tuple_getitem ?_ (args_tuple_getitem _ _)))
 show wpAny _ _ (Builtin.Tuple.tupleItemsOf (.ref t) >>= _) _ _ s
 refine wpAny_bind (tupleItemsOf_ ht ?_)
 refine wpAny_bind (wpAny_typeOf hTs ?_)
 rw [if_pos (by decide)]
 refine wpAny_bind (rC hs pl pu ?_)
 have hyes:((((bW items.size 0 lo:Nat):Int) == 0 && (1:Int) == 1 && (bW items.size items.size hi - bW items.size 0 lo) == items.size)=true):=by
  rw [hw.1,hw.2];simp
 show wpAny _ _ (if (((bW items.size 0 lo:Nat):Int) == 0 && (1:Int) == 1 && (bW items.size items.size hi - bW items.size 0 lo) == items.size)=true then _ else _) _ _ s
 rw [if_pos hyes]
 unfold Builtin.Tuple.tupleIsExact
 refine wpAny_bind (wpAny_bind (wpAny_typeOf ht.typeIs (wpAny_pure ?_)))
 rw [if_pos (by decide)]
 refine wpAny_bind (wpAny_rule ?_)
 exact wpAny_pure ⟨_,rfl,wpAny_pure h⟩
end HT
namespace U2
open PySem PySem.Spec PyProof.Rows L2
noncomputable def P5 (K:PySem.W.Frag):V->Option Int->Option Int->Hp->VK->Prop:=fun x lo hi H Q=>∃ a xs,x=.ref a/\iO K H a xs/\(HT.bW xs.length 0 lo=0/\HT.bW xs.length xs.length hi=xs.length)/\Q (.ref a) H
theorem Oo {X:Cx}:y0 X (P5 X.K):=by
 intro pins s σ H x v vl vu lo hi sl Q I rx hs pl pu h
 obtain ⟨a,xs,rfl,hx,hw,q⟩:=h
 cases rx
 obtain ⟨its,r,ht,hz⟩:=I.tuple hx
 have hlen:its.toArray.size=xs.length:=by rw [List.size_toArray];exact r.length.symm
 refine ⟨"tuple",_,PyProof.Rows.slot_tuple_getitem.lookup,ht.typeIs,?_⟩
 refine HT.wI ht hs pl pu (by rw [hlen];exact hw) ⟨.ref a,H,I,rfl,q⟩
noncomputable def sL (o:Bool) (te:UE) (tl th:UO):UE:=fun τ M Q=>te τ M fun x M1=>tl τ M1 fun l M2=>th τ M2 fun h M3=>match view M3 x with
 | .lst us=>jL o (iB us l h) M3 Q
 | .tup us=>Q (.tup (iB us l h)) M3
 | .str z=>z.length<=sizeLine/\Q (.str (Txt.slice z l h)) M3
 | _=>False
theorem Om {K:PySem.W.Frag} {o:Bool} {te:TE} {te':UE} {tl th:TO} {tl' th':UO} (h0:cU K te te') (h1:DH K tl tl') (h2:DH K th th'):cU K (S0 (fun x lo hi H Q=>Qv K x lo hi H Q\/P5 K x lo hi H Q) te tl th) (sL o te' tl' th'):=fun σ τ H M Q' rs rm q Q c =>
 h0 σ τ H M _ rs rm q _ fun u v M1 H1 s1 rm1 ru q1=>h1 σ τ H1 M1 _ (rs.stp s1) rm1 q1 _ fun lo M2 H2 s2 rm2 q2=>h2 σ τ H2 M2 _ ((rs.stp s1).stp s2) rm2 q2 _ fun hi M3 H3 s3 rm3 q3=>by
  have c3:=eR.stp c ((s1.trans s2).trans s3)
  have ru3:=ru.stp (s2.trans s3)
  split at q3
  ·rename_i us e
   obtain ⟨a,xs,rfl,r1,r2⟩:=fK rm3 ru3 e
   exact .inl (.inl ⟨a,xs,rfl,r1,fun p hp=>c3.lst rm3 (FY r2 lo hi) hp q3⟩)
  ·rename_i us e
   have e':=qW e
   subst e'
   obtain ⟨a,xs,rfl,r1,r2⟩:=ru3.tup
   by_cases hw:HT.bW xs.length 0 lo=0/\HT.bW xs.length xs.length hi=xs.length
   ·refine .inr ⟨a,xs,rfl,r1,hw,c3 _ _ M3 H3 (bA.refl _ _) rm3 ?_ q3⟩
    have e4:iB us lo hi=us:=by
     unfold iB
     rw [r2.length,hw.1,hw.2,List.drop_zero,Nat.sub_zero,<- r2.length,List.take_length]
    rw [e4]
    exact ru3
   ·exact .inl (.inr (.inl ⟨a,xs,rfl,r1,hw,fun p hp=>c3.tup rm3 (FY r2 lo hi) hp q3⟩))
  ·rename_i z e
   have e':=zY e
   subst e'
   exact .inl (.inr (.inr ⟨z,ru3.str,q3.1,c3 _ _ M3 H3 (bA.refl _ _) rm3 nZ q3.2⟩))
  ·exact q3.elim
theorem lM {D:Dat} {a:Expr} {ta:UE} {pos:Pos} (own:Bool:=false) {lo hi:Option Expr} {tl th:UO} {p2:Pos} (ha:bG D a ta) (hl:Nf D lo tl) (hh:Nf D hi th):bG D (.Subscript a (.Slice lo hi none p2) pos) (sL own ta tl th):=by
 obtain ⟨_,p,s⟩:=ha;obtain ⟨_,q,r⟩:=hl;obtain ⟨_,u,v⟩:=hh
 refine ⟨_,fun X h=>?_,Om s r v⟩
 have:=ML (pos:=pos) (p2:=p2) (P4.or Oo) (p X h) (q X h) (u X h)
 rw [h.K] at this
 exact this
end U2
namespace Att
open PySem PySem.Spec PyProof.Rows PySem.W Calls
end Att
namespace L2
open PySem PySem.Spec PyProof.Rows
end L2
namespace U2
open PySem PySem.Spec PyProof.Rows L2
noncomputable def Be (K:PySem.W.Frag) (n:Nat) (a:Addr):It :=
 ⟨fun i H=>∃ xs x,eT K H a xs/\xs.length=n/\i < n/\xs[n - 1 - i]?=some x,fun i H x H'=>H'=H/\∀ xs,eT K H a xs->xs[n - 1 - i]?=some x,fun i H=>i=n⟩
theorem Lz {P:Program} {w:World} {K:PySem.W.Frag} {tg:Expr} (n:Nat) (a it:Addr):Turn P w K tg (Be K n a) [it] it (fun i h=>h.IsRevIter it a ((n:Int) - 1 - (i:Int))) where
 mem:=by simp
 obj:=fun i h st b hb=>by
  have e:b=it:=by simpa using hb
  subst e
  obtain ⟨o,e,c,d⟩:=st
  exact ⟨o,e,fun v z=>by rw [d] at z;cases z⟩
 keep:=fun i h h' st k=>st.at fun o e=>k it (by simp) o e
 item:=by
  intro X hP hw hK hc i pins s σ H E I hf st hg
  subst hP hw hK
  obtain ⟨xs,x,hq,hn,hi,hx⟩:=hg
  obtain ⟨its,rv,p,hz⟩:=I.list hq
  obtain ⟨u,hu,ru⟩:=rv.get hx
  obtain ⟨f0,f1,f2,f3,f4,f5⟩:=hf it (by simp)
  have e:(n:Int) - 1 - (i:Int)=((n - 1 - i:Nat):Int):=by omega
  have st0:=st
  rw [e] at st0
  refine wpAny_pyNext_rev_item st0 p.isList (x:=u) (by simpa using hu) fun h' st' sb=>?_
  have I1:Inv X pins σ H { s with heap:=h' }:=I.turned (t':=s.toks) (fun b o hb e=>(sb.2 b hb).trans e) f0 f1 f3 f4 f5
  have e2:((n - 1 - i:Nat):Int) - 1=(n:Int) - 1 - ((i + 1:Nat):Int):=by omega
  rw [e2] at st'
  obtain ⟨o,e,c,d⟩:=id st'
  exact ⟨u,rfl,vY (s:={ s with heap:=h' }) e c d (by decide) ⟨x,H,I1,ru,⟨rfl,fun ys hy=>by rw [I.list_inj hy hq];exact hx⟩,st',fun b hb=>(hf b hb).1⟩⟩
 done:=by
  intro X hP hw hK hc i pins s σ H E I hf st hg
  subst hP hw hK
  have hg':i=n:=hg
  subst hg'
  obtain ⟨f0,f1,f2,f3,f4,f5⟩:=hf it (by simp)
  have e:(i:Int) - 1 - (i:Int)=-1:=by omega
  rw [e] at st
  exact wpAny_pyNext_rev_end (I.ok.hd hc) st fun h' eb=>⟨rfl,I.turned (t':=s.toks) (fun b o hb e=>eb b o hb e) f0 f1 f3 f4 f5⟩
 self:=fun _ _ _ _ _ st h=>wpAny_pyIter_revIter st h
noncomputable def QA (K:PySem.W.Frag) (ta:TA):TI:=fun σ H R=>ta σ H fun vs H1=>∃ a xs,vs=[.ref a]/\eT K H1 a xs/\R (Be K xs.length a) H1
theorem boot_reversed:bootBuiltins "reversed"=some (.type "reversed"):=by kernel_rfl
theorem Qu {X:Cx} {tg:Expr} {a:Expr} {ta:TA} {p pos:Pos} (hg:Gl X "reversed") (hm:X.mg "reversed"=none) (ha:PA X [a] ta) (hs:starEach [a] X.env=[(false,eval a X.env)]) :
  PI X tg (.Call (.Name "reversed" p) [a] [] pos) (QA X.K ta):=by
 intro pins s σ H R I h
 refine Call_ (lX I hg hm boot_reversed (PyProof.Rows.callWith_type1 (bR (ha pos pins s σ H _ I h) fun us s1 ⟨vs,H1,I1,r1,q1⟩=>?_) hs rfl))
 obtain ⟨a,xs,e,hq,q⟩:=q1
 subst e
 cases r1 with
 | cons r rr =>
  cases rr
  cases r
  obtain ⟨its,rv,p,hz⟩:=I1.list hq
  have hrev:Heap.IsRevIter (s1.heap.push (revObj a ((its.toArray.size:Int) - 1))) s1.heap.objs.size a ((xs.length:Int) - 1 - ((0:Nat):Int)):=by
   refine ⟨_,Heap.get?_push_size _ rfl,rfl,?_⟩
   have e1:((its.toArray.size:Nat):Int) - 1=(xs.length:Int) - 1 - ((0:Nat):Int):=by rw [List.size_toArray,<- rv.length];omega
   rw [<- e1];rfl
  refine call_reversed_list p.isList ?_
  refine wpAny_pyIter_revIter (s:={ s1 with heap:=s1.heap.push (revObj a ((its.toArray.size:Int) - 1)) }) hrev ?_
  have I2:L2.Inv X pins σ H1 { s1 with heap:=s1.heap.push (revObj a ((its.toArray.size:Int) - 1)),toks:=s1.toks }:=I1.kept fun b o e=>Heap.get?_push_of_some _ e
  refine ⟨s1.heap.objs.size,[s1.heap.objs.size],_,_,H1,rfl,I2,Lz xs.length a s1.heap.objs.size,hrev,fun b hb=>?_,q⟩
  have e:b=s1.heap.objs.size:=by simpa using hb
  subst e
  exact I1.fpOk (Nat.le_refl _) (I1.hok.fresh (Nat.le_refl _))
theorem Li {K:PySem.W.Frag} {a:Addr} {us:List U} {vs:List V} {H:Hp} {M:aH} (m:(M a=none/\Rd H a (.lst vs))\/KL K a vs) (r:aM K H M us vs):Walk K (Be K vs.length a) ⟨none,us.reverse⟩ H M:=by
 have sq:∀ H1 M1,bA H M H1 M1->eT K H1 a vs:=fun H1 M1 s=>by
  rcases m with ⟨m,h⟩ | k
  ·exact .inl (Rd.stp s m h).2
  ·exact .inr k
 refine ⟨fun H1 M1 s rm _ i u e=>?_,fun H1 M1 s rm _=>by show us.reverse.length=vs.length;rw [List.length_reverse,r.length]⟩
 have e':us.reverse[i]?=some u:=e
 have hi:i < us.length:=by
  have:=(List.getElem?_eq_some_iff.mp e').1
  simpa using this
 rw [List.getElem?_reverse hi] at e'
 obtain ⟨v,e2,ru⟩:=r.get e'
 rw [r.length] at e2 hi
 refine ⟨⟨vs,v,sq H1 M1 s,rfl,hi,e2⟩,fun x H2 y=>?_⟩
 obtain ⟨rfl,y⟩:=y
 have:=y vs (sq _ M1 s)
 rw [e2] at this;cases this
 exact ⟨bA.refl _ _,rm,ru.stp s⟩
noncomputable def cG (ta:UA):UI:=fun τ M R=>ta τ M fun us M1=>match us with
 | [.lst us]=>R ⟨none,us.reverse⟩ M1
 | _=>False
theorem O2 {K:PySem.W.Frag} {ta:TA} {ta':UA} (h:lK K ta ta'):nU K (QA K ta) (cG ta'):=fun σ τ H M R' rs rm q R c=>h σ τ H M _ rs rm q _ fun us vs M1 H1 s1 rm1 ru h1=>by
 split at h1
 ·rename_i xs
  obtain ⟨v,rfl,a⟩:=ru.one
  simp only [aQ] at a
  obtain ⟨a,vs,rfl,m,r⟩:=a
  refine ⟨a,vs,rfl,?_,c _ _ M1 H1 s1 rm1 (Li m r) h1⟩
  rcases m with ⟨_,m⟩ | k
  ·exact .inl m
  ·exact .inr k
 ·exact h1.elim
theorem yY {D:Dat} {tg:Expr} {a:Expr} {p pos:Pos} {ta:UA} (hm:D.mg "reversed"=none) (ha:m9 D [a] ta) (hg:D.sc.names.lookup ("reversed":Str)=some .globalImplicit:=by rfl) (hs:∀ env,starEach [a] env=[(false,eval a env)]:=by intro _;rfl):rJ D tg (.Call (.Name "reversed" p) [a] [] pos) (cG ta):=by
 obtain ⟨_,q,s⟩:=ha
 exact ⟨_,fun X h=>h.K ▸ Qu (by show X.env.scope.names.lookup _=_;rw [h.sc];exact hg) (by rw [h.mg];exact hm) (q X h) (hs _),O2 s⟩
end U2
namespace U2
open PySem PySem.Spec PyProof.Rows L2
section
variable {prog:Program} {w:World} {A:Around} {E:Value->Shared->Prop} {s:Shared}
end
noncomputable def aX (o:Bool) (ta:UA):UE:=fun τ M Q=>ta τ M fun us M1=>match us with
 | [x]=>match view M1 x with
  | .lst us=>jL o us.reverse M1 Q
  | _=>False
 | _=>False
end U2
namespace U2
open PySem PySem.Spec PyProof.Rows L2
theorem Fc {a n:Nat} (h:a<=n):sliceBounds (some (a:Int)) none none n=((a:Int),(n:Int),1):=by
 simp only [sliceBounds,Option.getD_none]
 have h1:¬ ((a:Int) < 0):=by omega
 simp only [h1,if_false,show (1:Int) > 0 by decide,if_true]
 congr 1
 omega
section
variable {prog:Program} {w:World} {A:Around} {E:Value->Shared->Prop} {s:Shared}
set_option maxRecDepth 100000 in
theorem DX {l b sl:Addr} {items new:Array Value} {n n2:Nat} {vl vu:Value} {a:Nat} {Q:Unit->Shared->Prop}
    (e:s.heap.get? l=some { cls:=.type "list",data:=.seq items n }) (e2:s.heap.get? b=some { cls:=.type "list",data:=.seq new n2 }) (hne:l≠b)
    (hs:s.heap.IsSliceOf sl vl vu .none) (pl:IsPart vl (some (a:Int))) (pu:IsPart vu none) (hac:a<=items.size)
    (hsz:items.size + new.size<=sizeLine) (h:Q () { s with heap:=s.heap.update l (Obj.mapSeq fun xs=>xs.extract 0 a++new++xs.extract items.size xs.size) }) :
    wpAny (model prog w) A (setItem (.ref l) (.ref sl) (.ref b)) Q E s:=by
  have hl:s.heap.IsList l items:=PySem.IsL.isList e
  have hb:s.heap.IsList b new:=PySem.IsL.isList e2
  obtain ⟨os,hos,hcs,hds⟩:=id hs
  have hTs:s.TypeIs (.ref sl) "slice":=⟨os,hos,hcs⟩
  have hstep:¬ ((rawPart none == rawInt 0)=true):=Bool.false_ne_true
  have hsame:Builtin.List.listSameRef (.ref l) (.ref b)=false:=by
    unfold Builtin.List.listSameRef
    exact beq_eq_false_iff_ne.mpr hne
  have hmax:(max (a:Int) (items.size:Int)).toNat=items.size:=by omega
  have hz':((fun xs:Array Value=>xs.extract 0 a++new++xs.extract items.size xs.size) items).size<=sizeLine + 1:=by
    simp only [Array.size_append,Array.size_extract]
    omega
  unfold setItem
  try with_reducible refine wpAny_holding ?_
  first | refine wpAny_bind (wpAny_pure ?_) | skip
  refine wpAny_bind (wpAny_sequenceKey hl.typeIs (by decide) ?_)
  refine wpAny_bind (wpAny_callSpecial?_slot (name:=Str.ofString "__setitem__") hl.typeIs slot_list_setitem
    (wpAny_call_entry slot_list_setitem hl.typeIs entry_list_setitem ?_ (args_list_setitem _ _ _)))
  show wpAny _ _ (Builtin.List.listSubscript? (.ref sl) >>= _) _ _ s
  refine wpAny_bind ?_
  unfold Builtin.List.listSubscript?
  refine wpAny_bind (wpAny_specialOf hTs slice_no_index ?_)
  simp only [Option.isNone_none,if_true]
  refine wpAny_pure ?_
  show wpAny _ _ (typeOf (.ref sl) >>= _) _ _ s
  refine wpAny_bind (wpAny_typeOf hTs ?_)
  first
    | rw [if_neg (by decide)]
    | refine PySem.W.KFB.if_not (by decide) ?_
  rw [listSliceParts_eq]
  refine wpAny_bind (wpAny_bind (wpAny_field hos hds (x:=.none) rfl (wpAny_bind (wpAny_listPart .none ?_))))
  rw [if_neg hstep]
  refine wpAny_bind (wpAny_field hos hds (x:=vl) rfl (wpAny_bind (wpAny_listPart pl ?_)))
  refine wpAny_bind (wpAny_field hos hds (x:=vu) rfl (wpAny_bind (wpAny_listPart pu (wpAny_pure ?_))))
  first
    | simp only [hsame,Bool.false_eq_true,if_false]
    | refine PySem.W.KFB.if_not hsame ?_
    | (dsimp only
       rw [if_neg (by rw [hsame];exact Bool.false_ne_true)])
  refine wpAny_bind (m:=Builtin.List.listAllItems (.ref b) "must assign iterable to extended slice") ?_
  unfold Builtin.List.listAllItems
  refine wpAny_bind (wpAny_typeOf hb.typeIs ?_)
  first
    | refine PySem.W.KFB.if_so (by decide) ?_
    | rw [if_pos (by decide)]
    | simp only [beq_self_eq_true,Bool.true_or,if_true]
  unfold Builtin.List.listItems
  refine wpAny_bind (wpAny_seqItems e2 rfl (wpAny_pure ?_))
  refine wpAny_bind (wpAny_bind (wpAny_seqItems e rfl (wpAny_pure ?_)))
  refine wpAny_bind (wpAny_of_eq ((sliceIndices_raw (some (a:Int)) none none items.size (by simp)).trans (congrArg (pure:Int × Int × Int->Sem (Int × Int × Int)) (Fc hac))) ?_)
  show wpAny _ _ (if ((1:Int) == 1)=true then _ else _) _ _ s
  rw [if_pos (by decide)]
  refine wpAny_bind (wpAny_rule ?_)
  first
    | simp only [uJ hsz,Bool.false_eq_true,if_false]
    | refine PySem.W.KFB.if_not (uJ hsz) ?_
  first | refine wpAny_bind (wpAny_pure ?_) | skip
  show wpAny _ _ (updateSeq l (fun xs=>xs.extract 0 ((a:Int)).toNat++new++xs.extract (max (a:Int) (items.size:Int)).toNat xs.size) >>= _) _ _ s
  rw [hmax,Int.toNat_natCast]
  refine wpAny_bind (wpAny_updateSeq (hz:=Nat.le_trans (Nat.le_add_right _ _) hsz) (_hz':=hz') e rfl ?_)
  refine wpAny_bind (wpAny_letGo ?_)
  first
    | exact wpAny_bind (wpAny_pure (wpAny_pure ⟨.none,rfl,wpAny_pure h⟩))
    | exact wpAny_pure ⟨.none,rfl,wpAny_pure h⟩
end
noncomputable def Oq (to:TE) (tl:TO):TG:=fun v σ H Q=>to σ H fun x H1=>tl σ H1 fun lo H2=>∃ l b xs ys a,x=.ref l/\v=.ref b/\lo=some a/\0<=a/\a<=xs.length/\H2 l=some (.lst xs)/\H2 b=some (.lst ys)/\l≠b/\xs.length + ys.length<=sizeLine/\Q σ (upd H2 l (.lst (xs.take a.toNat++ys)))
theorem KA {X:Cx} {o lo:Expr} {to:TE} {tl:TO} {p2 pos:Pos} (ho:PE X o to) (hl:PO X (some lo) tl):PG X (.Subscript o (.Slice (some lo) none none p2) pos) (Oq to tl):=by
 intro pins s σ H v u Q I r h
 rw [arm_assign_Subscript]
 refine wpAny_bind (wpAny_holding (bR (ho pins s σ H _ I h) fun ov s1 ⟨x,H1,I1,r1,q1⟩=>?_))
 refine wpAny_bind (wpAny_holding (wpAny_Slice (bR (hl pins s1 σ H1 _ I1 q1) fun vl s2 ⟨lo',H2,I2,pl,q2⟩=>?_)))
 rw [evalPart_none]
 refine wpAny_pure (wpAny_pure ?_)
 obtain ⟨l,b,xs,ys,a,rfl,rfl,rfl,h0,h1,hL,hB,hne,hz,q⟩:=q2
 cases r1
 cases r
 have I4:L2.Inv X pins σ H2 { s2 with heap:=s2.heap.push { cls:=.type "slice",data:=.fields #[vl,.none,.none] } }:=I2.kept (t':=s2.toks) fun b ob q=>Heap.get?_push_of_some _ q
 obtain ⟨z,its,n,rr,hl',e⟩:=I4.lstM hL
 obtain ⟨z2,its2,n2,rr2,hl2,e2⟩:=I4.lstM hB
 obtain ⟨a',rfl⟩:=Int.eq_ofNat_of_zero_le h0
 simp only [Int.toNat_natCast] at q
 refine wpAny_bind (wpAny_standAt (wpAny_bind (wpAny_holding (DX (a:=a') e e2 hne (Heap.IsSliceOf.new ..) pl .none (by rw [List.size_toArray];omega) (by rw [List.size_toArray,List.size_toArray];omega) ?_))))
 refine wpAny_release ⟨σ,_,I4.lset (its':=its.take a'++its2) (t':=s2.toks) hL e ?_ (Vals.append (rr.take _) rr2) ?_,q⟩
 ·have:=Jo its its2 a' its.toArray.size
  rw [List.size_toArray,List.drop_length,List.append_nil] at this
  rw [List.size_toArray]
  exact this
 ·rw [List.length_append,List.length_take]
  omega
noncomputable def aZ (te to ti:UE):US:=fun D τ M=>te τ M fun v M1=>to τ M1 fun x M2=>ti τ M2 fun y M3=>match v,x,y with
 | .ref b,.ref l,.int a=>match M3 b,M3 l with
  | some (.lst ws),some (.lst us)=>l≠b/\0<=a/\a<=us.length/\us.length + ws.length<=sizeLine/\D.nx τ (mup M3 l (.lst (us.take a.toNat++ws)))
  | _,_=>False
 | _,_,_=>False
theorem Fd {D:Dat} {e o i:Expr} {te to ti:UE} {pos tpos p2:Pos} (he:bG D e te) (ho:bG D o to) (hi:bG D i ti) (hs:∀ env,swapsWithSole [.Subscript o (.Slice (some i) none none p2) tpos] e pos.line env=pure false:=by intro _;rfl) (hw:∀ env,swappedStores [.Subscript o (.Slice (some i) none none p2) tpos] e env=pure none:=by intro _;rfl)
  (h1:∀ env,(assignEach [.Subscript o (.Slice (some i) none none p2) tpos] env).map (·.2)=[assign (.Subscript o (.Slice (some i) none none p2) tpos) env]:=by intro _;rfl):rO D (.Assign [.Subscript o (.Slice (some i) none none p2) tpos] e pos) (aZ te to ti):=by
 obtain ⟨_,p1,s1⟩:=he;obtain ⟨_,p2,s2⟩:=ho;obtain ⟨_,p3,s3⟩:=hi
 refine ⟨_,fun X h=>JK (p1 X h) (KA (p2 X h) (Gs (p3 X h))) (hs _) (hw _) (h1 _),fun σ τ H M D' rs rm h EE d=>?_⟩
 refine s1 σ τ H M _ rs rm h _ fun v vv M1 H1 st1 rm1 rv h1=>?_
 refine s2 σ τ H1 M1 _ (rs.stp st1) rm1 h1 _ fun x vx M2 H2 eD rm2 rx h2=>?_
 refine s3 σ τ H2 M2 _ ((rs.stp st1).stp eD) rm2 h2 _ fun y vy M3 H3 st3 rm3 ry h3=>?_
 split at h3
 ·rename_i b l a
  split at h3
  ·rename_i ws us eb el
   obtain ⟨hne,h0,hle,hz,q⟩:=h3
   cases ((rv.stp eD).stp st3).ref
   cases (rx.stp st3).ref
   cases ry.int
   obtain ⟨vs,hv,rus⟩:=rm3 l _ el
   obtain ⟨zs,hzv,rws⟩:=rm3 b _ eb
   have rnew0:aM D.K H3 M3 (us.take a.toNat++ws) (vs.take a.toNat++zs):=(rus.take _).append rws
   have st4:bA H3 M3 (upd H3 l (.lst (vs.take a.toNat++zs))) (mup M3 l (.lst (us.take a.toNat++ws))):=bA.write el
   have rnew:RelM D.K (upd H3 l (.lst (vs.take a.toNat++zs))) (mup M3 l (.lst (us.take a.toNat++ws))):=rm3.put st4 ⟨_,c5,rnew0.stp st4⟩
   refine ⟨a,rfl,l,b,vs,zs,a,rfl,rfl,rfl,h0,by rw [<- rus.length];exact hle,hv,hzv,hne,by rw [<- rus.length,<- rws.length];exact hz,?_⟩
   exact d.nx _ _ _ _ (((st1.trans eD).trans st3).trans st4) rnew ((((rs.stp st1).stp eD).stp st3).stp st4) q
  ·exact h3.elim
 ·exact h3.elim
end U2
namespace U2
open PySem PySem.Spec PyProof.Rows L2
end U2
namespace U2
open PySem PySem.Spec PyProof.Rows L2
noncomputable def fC:fF:=fun x y M Q=>match x,y with
 | .bl i,.bl j=>Q (.bl (!decide (i=j))) M
 | _,_=>False
noncomputable def fB:fF:=fun x y M Q=>match x,y with
 | .bl i,.bl j=>Q (.bl (decide (i=j))) M
 | _,_=>False
end U2
namespace U2
open PySem PySem.Spec PyProof.Rows L2
theorem i4.len {K:PySem.W.Frag} {H:Hp}:∀ {ds:List PyData} {vs:List V},i4 K H ds vs->ds.length=vs.length
 | [],vs,h=>by simp only [i4] at h;subst h;rfl
 | d :: ds,vs,h=>by
  simp only [i4] at h
  obtain ⟨v,vs',rfl,_,h2⟩:=h
  simp only [List.length_cons,i4.len h2]
end U2
namespace U2
open PySem PySem.Spec PyProof.Rows L2
noncomputable def uV (_:PySem.W.Frag):Prop:=True
noncomputable def kW:U->Option Key
 | .int i=>some (.inl i)
 | .str x=>some (.inr x)
 | _=>none
noncomputable def l7:List U->Option (List Key)
 | []=>some []
 | u :: us=>match kW u,l7 us with
  | some k,some ks=>some (k :: ks)
  | _,_=>none
noncomputable def kU:Key->U
 | .inl i=>.int i
 | .inr x=>.str x
theorem OK (k:Key):kW (kU k)=some k:=by cases k <;> rfl
theorem Nb:∀ ks:List Key,l7 (ks.map kU)=some ks
 | []=>rfl
 | k :: ks=>by simp only [List.map_cons,l7,OK,Nb ks]
theorem v8 {K:PySem.W.Frag} {H:Hp} {M:aH} {u:U} {v:V} {k:Key} (r:aQ K H M u v) (e:kW u=some k):v=kV k:=by
 cases u with
 | int i=>cases e;exact r.int
 | str x=>cases e;exact r.str
 | _=>cases e
theorem Cz {K:PySem.W.Frag} {H:Hp} {M:aH}:∀ {us:List U} {vs:List V} {ks:List Key},aM K H M us vs->l7 us=some ks->vs=ks.map kV
 | [],_,_,r,e=>by cases e;exact r.inv_nil
 | u :: us,_,ks,r,e=>by
  obtain ⟨v,vs',rfl,a,b⟩:=r.inv_cons
  simp only [l7] at e
  cases e1:kW u with
  | none=>rw [e1] at e;cases e
  | some k =>
   cases e2:l7 us with
   | none=>rw [e1,e2] at e;cases e
   | some ks' =>
    rw [e1,e2] at e;cases e
    rw [v8 a e1,Cz b e2];rfl
section
variable {κ:Type} [DecidableEq κ]
noncomputable def cD (kvs:List (κ × U)) (k:κ):Option U:=(kvs.find? fun kv=>decide (kv.1=k)).map (·.2)
noncomputable def jJ (kvs:List (κ × U)) (k:κ) (u:U):List (κ × U) :=
 if (kvs.any fun kv=>decide (kv.1=k))=true then kvs.map (fun kv=>if kv.1=k then (kv.1,u) else kv) else kvs++[(k,u)]
theorem fN {p:κ × U} {r:List (κ × U)} {k:κ} (e:p.1=k):cD (p :: r) k=some p.2:=by simp [cD,List.find?_cons,e]
theorem dC {p:κ × U} {r:List (κ × U)} {k:κ} (e:¬ p.1=k):cD (p :: r) k=cD r k:=by simp [cD,List.find?_cons,e]
theorem Ah (k:κ):∀ kvs:List (κ × U),(kvs.any fun kv=>decide (kv.1=k))=(cD kvs k).isSome
 | []=>rfl
 | p :: r=>by
  rw [List.any_cons]
  by_cases e:p.1=k
  ·simp only [fN e,decide_eq_true e,Bool.true_or,Option.isSome_some]
  ·rw [dC e,decide_eq_false e,Bool.false_or];exact Ah k r
theorem nH {kvs:List (κ × U)} {k:κ} {u:U} (h:cD kvs k=none):jJ kvs k u=kvs++[(k,u)]:=by
 unfold jJ
 rw [Ah,h]
 exact if_neg (by decide)
theorem DV {kvs:List (κ × U)} {k:κ} {u w:U} (h:cD kvs k=some w):jJ kvs k u=kvs.map (fun kv=>if kv.1=k then (kv.1,u) else kv):=by
 unfold jJ
 rw [Ah,h]
 exact if_pos rfl
theorem nD (kvs:List (κ × U)) (k:κ) (u:U):(jJ kvs k u).length<=kvs.length + 1:=by
 unfold jJ
 split
 ·rw [List.length_map];omega
 ·rw [List.length_append,List.length_cons,List.length_nil];omega
variable {K:PySem.W.Frag} {H:Hp} {M:aH}
theorem dX.any {kvs:List (κ × U)} {ws:List (κ × V)} (r:dX K H M kvs ws) (k:κ):(kvs.any fun kv=>decide (kv.1=k))=ws.any fun kv=>decide (kv.1=k):=by
 unfold dX at r
 induction r with
 | nil=>rfl
 | cons h t ih=>rw [List.any_cons,List.any_cons,ih,h.1]
noncomputable def C3 (K:PySem.W.Frag) (H:Hp) (M:aH):Option U->Option V->Prop
 | none,none=>True
 | some u,some v=>aQ K H M u v
 | _,_=>False
theorem dX.val {kvs:List (κ × U)} {ws:List (κ × V)} (r:dX K H M kvs ws) (k:κ):C3 K H M (cD kvs k) (kB ws k):=by
 unfold dX at r
 induction r with
 | nil=>exact True.intro
 | @cons p q ps qs h t ih =>
  obtain ⟨h1,h2⟩:=h
  by_cases e:p.1=k
  ·rw [fN e,kF (h1.symm.trans e)];exact h2
  ·rw [dC e,kN (fun z=>e (h1.trans z))];exact ih
theorem dX.repl {kvs:List (κ × U)} {ws:List (κ × V)} (r:dX K H M kvs ws) (k:κ) {u:U} {v:V} (ru:aQ K H M u v):dX K H M (kvs.map fun kv=>if kv.1=k then (kv.1,u) else kv) (ws.map fun kv=>if kv.1=k then (kv.1,v) else kv):=by
 unfold dX at r ⊢
 induction r with
 | nil=>exact .nil
 | @cons p q ps qs h t ih =>
  rw [List.map_cons,List.map_cons]
  refine .cons ?_ ih
  obtain ⟨h1,h2⟩:=h
  by_cases e:p.1=k
  ·rw [if_pos e,if_pos (h1.symm.trans e)];exact ⟨h1,ru⟩
  ·rw [if_neg e,if_neg (fun z=>e (h1.trans z))];exact ⟨h1,h2⟩
theorem dX.put {kvs:List (κ × U)} {ws:List (κ × V)} (r:dX K H M kvs ws) (k:κ) {u:U} {v:V} (ru:aQ K H M u v):dX K H M (jJ kvs k u) (putK ws k v):=by
 unfold jJ putK
 rw [r.any k]
 split
 ·exact r.repl k ru
 ·exact Paired.snoc r ⟨rfl,ru⟩
theorem dX.length {kvs:List (κ × U)} {ws:List (κ × V)} (r:dX K H M kvs ws):kvs.length=ws.length:=Paired.length r
theorem El:∀ {ws:List (κ × V)} {us:List U},aM K H M us (ws.map (·.2))->dX K H M ((ws.map (·.1)).zip us) ws
 | [],us,r=>by
  have:=r.length
  cases us with
  | nil=>exact .nil
  | cons _ _=>simp at this
 | w :: ws,us,r=>by
  cases us with
  | nil=>have:=r.length;simp at this
  | cons u us =>
   obtain ⟨v,vs',e,a,b⟩:=r.inv_cons
   rw [List.map_cons] at e
   cases e
   exact .cons ⟨rfl,a⟩ (El b)
end
noncomputable def zE:List Key->Key
 | [k]=>k
 | _=>.inl 0
noncomputable def kC (M:aH):U->Option MO
 | .ref a=>M a
 | .dic ks true us=>some (.dT (ks.zip us))
 | .dic ks false us=>some (.dK ((ks.map zE).zip us))
 | _=>none
section
variable {K:PySem.W.Frag} {H:Hp} {M:aH} {x y:U} {v u:V}
theorem NN {kvs:List (Key × U)} (rm:RelM K H M) (r:aQ K H M x v) (e:kC M x=some (.dK kvs)):∃ a ws,v=.ref a/\Rd H a (.dK ws)/\dX K H M kvs ws:=by
 cases x with
 | ref a=>obtain ⟨ws,h1,h2⟩:=rm a _ e;exact ⟨a,ws,r.ref,.inl h1,h2⟩
 | dic ks tk us =>
  cases tk with
  | true=>cases e
  | false =>
   simp only [kC] at e
   cases e
   simp only [aQ] at r
   obtain ⟨a,vs,rfl,m,⟨ws,h1,rfl,rfl⟩,ru⟩:=r
   refine ⟨a,ws,rfl,h1,?_⟩
   have e1:(ws.map (fun p=>[p.1])).map zE=ws.map (·.1):=by rw [List.map_map];rfl
   rw [e1];exact El ru
 | _=>cases e
theorem NJ {kvs:List (List Key × U)} (rm:RelM K H M) (r:aQ K H M x v) (e:kC M x=some (.dT kvs)):∃ a ws,v=.ref a/\Rd H a (.dT ws)/\dX K H M kvs ws:=by
 cases x with
 | ref a=>obtain ⟨ws,h1,h2⟩:=rm a _ e;exact ⟨a,ws,r.ref,.inl h1,h2⟩
 | dic ks tk us =>
  cases tk with
  | false=>cases e
  | true =>
   simp only [kC] at e
   cases e
   simp only [aQ] at r
   obtain ⟨a,vs,rfl,m,⟨ws,h1,rfl,rfl⟩,ru⟩:=r
   exact ⟨a,ws,rfl,h1,El ru⟩
 | _=>cases e
theorem Gv {ys:List U} {ks:List Key} (hk:uV K) (r:aQ K H M (.tup ys) u) (e:l7 ys=some ks):∃ b,u=.ref b/\H b=some (.tup (ks.map kV)):=by
 simp only [aQ] at r
 obtain ⟨b,vs,rfl,h,ru⟩:=r
 have:=Cz ru e
 subst this
 exact ⟨b,rfl,h.2⟩
noncomputable def k8 (tk:Bool) (M:aH) (x y:U):Option (Option U):=match tk with
 | false=>match kC M x,kW y with
  | some (.dK kvs),some k=>some (cD kvs k)
  | _,_=>none
 | true=>match kC M x,y with
  | some (.dT kvs),.tup ys=>(l7 ys).map (cD kvs)
  | _,_=>none
theorem Cq {tk:Bool} {o:Option U} (hk:tk=true->uV K) (rm:RelM K H M) (rx:aQ K H M x v) (ry:aQ K H M y u) (e:k8 tk M x y=some o):∃ a ov,v=.ref a/\Aa H a u ov/\C3 K H M o ov:=by
 cases tk with
 | false =>
  simp only [k8] at e
  split at e
  ·rename_i kvs k e1 e2
   cases e
   obtain ⟨a,ws,rfl,h1,h2⟩:=NN rm rx e1
   have:=v8 ry e2
   subst this
   exact ⟨a,_,rfl,.inl ⟨_,k,h1,rfl,rfl⟩,h2.val k⟩
  ·cases e
 | true =>
  simp only [k8] at e
  split at e
  ·rename_i kvs ys e1
   obtain ⟨a,ws,rfl,h1,h2⟩:=NJ rm rx e1
   cases e3:l7 ys with
   | none=>rw [e3] at e;cases e
   | some ks =>
    rw [e3] at e;cases e
    obtain ⟨b,rfl,hb⟩:=Gv (hk rfl) ry e3
    exact ⟨a,_,rfl,.inr ⟨_,ks,b,h1,rfl,hb,rfl⟩,h2.val ks⟩
  ·cases e
end
noncomputable def C1 (tk:Bool):fF:=fun x y M Q=>match k8 tk M x y with
 | some (some u)=>Q u M
 | _=>False
noncomputable def Nq:R2:=fun x y H Q=>∃ a v,x=.ref a/\Aa H a y (some v)/\Q v H
theorem LR {K:PySem.W.Frag} {tk:Bool} (hk:tk=true->uV K):gI K Nq (C1 tk):=fun x y u w H M Q' rm ru rw h Q c=>by
 unfold C1 at h
 split at h
 ·rename_i z e
  obtain ⟨a,ov,rfl,g,r⟩:=Cq hk rm ru rw e
  cases ov with
  | none=>exact r.elim
  | some v=>exact ⟨a,v,rfl,g,c.here rm r h⟩
 ·exact h.elim
section
variable {D:Dat} {a b c e o i:Expr} {ta tb tc te to ti:UE} {pos p:Pos} {es:List Expr} {tas:UA} {x:Str}
theorem mF {K:PySem.W.Frag}:false=true->uV K:=fun h=>by cases h
theorem iP (tk:Bool) (hk:tk=true->uV D.K) (ha:bG D a ta) (hb:bG D b tb) (hs:LC b:=by intro _ _;rfl):bG D (.Subscript a b pos) (lH (C1 tk) ta tb):=by
 obtain ⟨_,p,s⟩:=ha;obtain ⟨_,q,r⟩:=hb
 exact ⟨Gw Nq _ _,fun X h=>PC (Hz h.room) (p X h) (q X h) hs,wY (LR hk) s r⟩
noncomputable def S6 (tk neg:Bool):fF:=fun y x M Q=>match k8 tk M x y with
 | some o=>Q (.bl (if neg then !o.isSome else o.isSome)) M
 | none=>False
noncomputable def Rn (tk:Bool):MO:=if tk then .dT [] else .dK []
noncomputable def NP (tk:Bool):UE:=fun _ M Q=>∀ p,M p=none->Q (.ref p) (mup M p (Rn tk))
theorem lD (tk:Bool):bG D (.Dict [] [] pos) (NP tk):=by
 cases tk with
 | false =>
  refine ⟨II,fun X h=>Nd,fun σ τ H M Q' rs rm h Q c p hp=>?_⟩
  have st:bA H M (upd H p (.dK [])) (mup M p (.dK [])):=bA.own rm hp
  exact c (.ref p) _ _ _ st (rm.put st ⟨[],c5,.nil⟩) rB (h p (rm.no hp))
 | true =>
  refine ⟨Kt,fun X h=>MX,fun σ τ H M Q' rs rm h Q c p hp=>?_⟩
  have st:bA H M (upd H p (.dT [])) (mup M p (.dT [])):=bA.own rm hp
  exact c (.ref p) _ _ _ st (rm.put st ⟨[],c5,.nil⟩) rB (h p (rm.no hp))
noncomputable def oP (tk:Bool) (te to ti:UE):US:=fun D τ M=>te τ M fun v M1=>to τ M1 fun x M2=>ti τ M2 fun y M3=>match x with
 | .ref a=>match tk with
  | false=>match M3 a,kW y with
   | some (.dK kvs),some k=>kvs.length < sizeLine/\D.nx τ (mup M3 a (.dK (jJ kvs k v)))
   | _,_=>False
  | true=>match M3 a,y with
   | some (.dT kvs),.tup ys=>match l7 ys with
    | some ks=>kvs.length < sizeLine/\D.nx τ (mup M3 a (.dT (jJ kvs ks v)))
    | none=>False
   | _,_=>False
 | _=>False
theorem kX (tk:Bool) (hk:tk=true->uV D.K) {tpos:Pos} (he:bG D e te) (ho:bG D o to) (hi:bG D i ti) (hs:∀ env,swapsWith e (some (.Subscript o i tpos)) pos.line env=pure false:=by intro _;rfl):rO D (.Assign [.Subscript o i tpos] e pos) (oP tk te to ti):=by
 obtain ⟨_,p1,s1⟩:=he;obtain ⟨_,p2,s2⟩:=ho;obtain ⟨_,p3,s3⟩:=hi
 refine ⟨_,fun X h=>Oi (Hz h.room) (p2 X h) (p3 X h) (p1 X h) (hs _),fun σ τ H M D' rs rm h EE d=>?_⟩
 refine s1 σ τ H M _ rs rm h _ fun v vv M1 H1 st1 rm1 rv h1=>?_
 refine s2 σ τ H1 M1 _ (rs.stp st1) rm1 h1 _ fun x vx M2 H2 eD rm2 rx h2=>?_
 refine s3 σ τ H2 M2 _ ((rs.stp st1).stp eD) rm2 h2 _ fun y vy M3 H3 st3 rm3 ry h3=>?_
 have rv3:=(rv.stp eD).stp st3
 have rs3:=((rs.stp st1).stp eD).stp st3
 cases x with
 | ref a =>
  cases (rx.stp st3).ref
  cases tk with
  | false =>
   dsimp only at h3
   split at h3
   ·rename_i kvs k e1 e2
    obtain ⟨hl,q⟩:=h3
    obtain ⟨ws,hv,r⟩:=rm3 a _ e1
    have:=v8 ry e2
    subst this
    have st4:bA H3 M3 (upd H3 a (.dK (putK ws k vv))) (mup M3 a (.dK (jJ kvs k v))):=bA.write e1
    have rnew:RelM D.K (upd H3 a (.dK (putK ws k vv))) (mup M3 a (.dK (jJ kvs k v))):=rm3.put st4 ⟨_,c5,(r.put k rv3).stp st4⟩
    exact ⟨a,_,rfl,.k hv (by rw [<- r.length];exact hl),d.nx _ _ _ _ (((st1.trans eD).trans st3).trans st4) rnew (rs3.stp st4) q⟩
   ·exact h3.elim
  | true =>
   dsimp only at h3
   split at h3
   ·rename_i kvs ys e1
    split at h3
    ·rename_i ks e2
     obtain ⟨hl,q⟩:=h3
     obtain ⟨ws,hv,r⟩:=rm3 a _ e1
     obtain ⟨b,rfl,hb⟩:=Gv (hk rfl) ry e2
     have st4:bA H3 M3 (upd H3 a (.dT (putK ws ks vv))) (mup M3 a (.dT (jJ kvs ks v))):=bA.write e1
     have rnew:RelM D.K (upd H3 a (.dT (putK ws ks vv))) (mup M3 a (.dT (jJ kvs ks v))):=rm3.put st4 ⟨_,c5,(r.put ks rv3).stp st4⟩
     exact ⟨a,_,rfl,.t hv hb (by rw [<- r.length];exact hl),d.nx _ _ _ _ (((st1.trans eD).trans st3).trans st4) rnew (rs3.stp st4) q⟩
    ·exact h3.elim
   ·exact h3.elim
 | _=>exact h3.elim
noncomputable def wL (M:aH) (x:U):Bool:=match kC M x with
 | some (.dK _)=>true
 | some (.dT _)=>true
 | _=>false
theorem Ez {K:PySem.W.Frag} {H:Hp} {M:aH} {x:U} {v:V} (rm:RelM K H M) (r:aQ K H M x v) (e:wL M x=true):∃ a,v=.ref a/\NR H a:=by
 unfold wL at e
 split at e
 ·rename_i kvs h
  obtain ⟨a,ws,rfl,h1,_⟩:=NN rm r h
  exact ⟨a,rfl,.inl ⟨ws,h1⟩⟩
 ·rename_i kvs h
  obtain ⟨a,ws,rfl,h1,_⟩:=NJ rm r h
  exact ⟨a,rfl,.inr ⟨ws,h1⟩⟩
 ·cases e
theorem C3.getD {K:PySem.W.Frag} {H:Hp} {M:aH} {o:Option U} {ov:Option V} {u:U} {v:V} (r:C3 K H M o ov) (q:aQ K H M u v):aQ K H M (o.getD u) (ov.getD v):=by
 cases o <;> cases ov <;> first | exact q | exact r | exact r.elim
noncomputable def Qc (tk:Bool) (to ti:UE):UE:=fun τ M Q=>to τ M fun x M1=>wL M1 x=true/\ti τ M1 fun y M2=>match k8 tk M2 x y with
 | some o=>Q (o.getD .non) M2
 | none=>False
noncomputable def Jk (tk:Bool) (to ti tx:UE):UE:=fun τ M Q=>to τ M fun x M1=>wL M1 x=true/\ti τ M1 fun y M2=>tx τ M2 fun z M3=>match k8 tk M3 x y with
 | some o=>Q (o.getD z) M3
 | none=>False
theorem DT (tk:Bool) (hk:tk=true->uV D.K) {apos:Pos} {f:Expr} {tf:UE} (ho:bG D o to) (hi:bG D e te) (hf:bG D f tf) (hbase:∀ env,attributeBase o "get" env (eval o env)=eval o env:=by intro _;rfl)
  (hfew:∀ env,((backTo pos (starEach [e,f] env)).all (fun x=>!x.1) && (backToKw pos (keywordEach [] env)).all (fun x=>x.1.isSome) && decide ([e,f].length + ([]:List Keyword).length + (if ([]:List Keyword).isEmpty then 0 else 1) < 30))=true:=by intro _;rfl)
  (hline:(apos.endLine == pos.line)=true:=by rfl) (hs:∀ env,backTo pos (starEach [e,f] env)=[(false,eval e env),(false,eval f env)]:=by intro _;rfl):bG D (.Call (.Attribute o "get" apos) [e,f] [] pos) (Jk tk to te tf):=by
 obtain ⟨_,p1,s1⟩:=ho;obtain ⟨_,p2,s2⟩:=hi;obtain ⟨_,p3,s3⟩:=hf
 refine ⟨_,fun X h=>MN (Hz h.room) (p1 X h) (p2 X h) (p3 X h) ⟨hbase _,hfew _,hline,hs _⟩,fun σ τ H M Q' rs rm h Q c=>?_⟩
 refine s1 σ τ H M _ rs rm h _ fun x vx M1 H1 st1 rm1 rx h1=>?_
 obtain ⟨hd,h1⟩:=h1
 obtain ⟨a,rfl,hd⟩:=Ez rm1 rx hd
 refine ⟨a,rfl,hd,s2 σ τ H1 M1 _ (rs.stp st1) rm1 h1 _ fun y vy M2 H2 eD rm2 ry h2=>s3 σ τ H2 M2 _ ((rs.stp st1).stp eD) rm2 h2 _ fun z vz M3 H3 st3 rm3 rz h3=>?_⟩
 split at h3
 ·rename_i o e
  obtain ⟨a',ov,e',g,r⟩:=Cq hk rm3 ((rx.stp eD).stp st3) (ry.stp st3) e
  cases e'
  exact ⟨ov,g,c _ _ M3 H3 ((st1.trans eD).trans st3) rm3 (r.getD rz) h3⟩
 ·exact h3.elim
end
end U2
namespace U2
open PySem PySem.Spec PyProof.Rows L2
end U2
namespace L2
open PySem PySem.Spec PyProof.Rows PySem.F
noncomputable def jC (h:Heap) (d:Addr) (es:Array DictEntry) (ep:Nat):Prop:=∃ o,h.get? d=some o/\o.ExactDict/\o.data=.dict es ep
theorem jC.ty {s:Shared} {d:Addr} {es:Array DictEntry} {ep:Nat} (r:jC s.heap d es ep):s.TypeIs (.ref d) "dict":=let ⟨o,e,c,_⟩:=r;⟨o,e,c.1⟩
theorem jC.at {h h':Heap} {d:Addr} {es:Array DictEntry} {ep:Nat} (r:jC h d es ep) (k:∀ o,h.get? d=some o->h'.get? d=some o):jC h' d es ep:=let ⟨o,e,c⟩:=r;⟨o,k o e,c⟩
theorem jC.lt {h:Heap} {d:Addr} {es:Array DictEntry} {ep:Nat} (r:jC h d es ep):d < h.objs.size:=let ⟨_,e,_⟩:=r;Heap.lt_size e
section
variable {prog:Program} {w:World} {A:Around} {E:Value->Shared->Prop} {s:Shared} {d it vw:Addr} {es:Array DictEntry} {ep i:Nat} {e:DictEntry}
theorem Em {Q:Value->Shared->Prop} (lo:(d == sysModules)=false) (r:jC s.heap d es ep)
  (q:Q (.ref s.heap.objs.size) { s with heap:=s.heap.push { cls:=.type "dict_keyiterator",data:=.fields #[.ref d,.int 0 0,.int es.size 0,.int ep 0] } }):wpAny (model prog w) A (pyIter (.ref d)) Q E s:=by
 obtain ⟨o,g,c,dd⟩:=id r
 refine wpAny_pyIter_slot r.ty slot_dict_iter (wpAny_call_entry slot_dict_iter r.ty entry_dict_iter ?_ (args_dict_iter_1 _))
 unfold Builtin.«dict.__iter__»;refine wpAny_bind ?_
 unfold Builtin.Dict.dictSlotNone;refine wpAny_bind (wpAny_notOrdered_dict r.ty ?_)
 show wpAny (model prog w) _ (pure (Value.ref d)) _ _ s;refine wpAny_pure ?_
 show wpAny (model prog w) _ (Builtin.Dict.showsAll d >>= _) _ _ s;unfold Builtin.Dict.showsAll
 rw [if_neg (by rw [lo];decide)];refine wpAny_bind (wpAny_pure (wpAny_bind (wpAny_dictEntries g dd (wpAny_bind (wpAny_dictEpoch g dd ?_)))))
 refine wpAny_bind (wpAny_newObj_type (wpAny_pure ⟨_,rfl,"dict_keyiterator",_,⟨_,Heap.get?_push_size _ rfl,rfl⟩,slot_dict_keyiterator_next.lookup,?_⟩))
 simpa [rawInt] using q
theorem EM {Q:Option Value->Shared->Prop} (hit:s.heap.IsKeyIter it d i es.size ep) (r:jC s.heap d es ep) (hx:es[i]?=some e)
  (q:∀ h',h'.IsKeyIter it d (i + 1) es.size ep->Heap.SameBut it s.heap h'->Q (some e.key) { s with heap:=h' }):wpAny (model prog w) A (pyNext (.ref it)) Q E s:=by
 obtain ⟨oi,gi,ci,di⟩:=id hit
 obtain ⟨o,g,c,dd⟩:=id r
 have T:=hit.typeIs
 have lt:i < es.size:=(Array.getElem?_eq_some_iff.mp hx).1
 unfold pyNext
 refine wpAny_bind (wpAny_attempt (wpAny_callSpecial?_slot (name:=Str.ofString "__next__") T slot_dict_keyiterator_next (wpAny_call_entry slot_dict_keyiterator_next T entry_dict_keyiterator_next ?_ (args_dict_keyiterator_next_1 _))))
 refine wpAny_bind (wpAny_pure (wpAny_bind (wpAny_bind ?_)))
 first | refine wpAny_bind (wpAny_typeNameOfWhole_keyiter T (wpAny_pure (wpAny_bind (wpAny_fieldsOf gi di ?_)))) | refine wpAny_bind (wpAny_typeNameOf_keyiter T (wpAny_pure (wpAny_bind (wpAny_fieldsOf gi di ?_))))
 simp only [show Builtin.Dict_items.ownsTuple "dict_keyiterator"=false by decide,Bool.false_eq_true,if_false]
 show wpAny (model prog w) _ (if (Value.ref d == Value.none)=true then _ else _) _ _ s
 rw [if_neg (show ¬ ((Value.ref d == Value.none)=true) from Bool.false_ne_true)];refine wpAny_bind (wpAny_pure (wpAny_bind (wpAny_dictEntries g dd ?_)))
 rw [if_neg (by simp)];refine wpAny_bind (wpAny_pure (wpAny_bind (wpAny_dictEpoch g dd ?_)));rw [if_neg (by simp)];refine wpAny_pure ?_
 simp only [show ¬ ((i:Int) < 0) by omega,if_false,Int.toNat_natCast,hx];refine wpAny_bind ?_
 first | refine wpAny_bind (wpAny_typeNameOfWhole_keyiter T (wpAny_pure (wpAny_bind (wpAny_isOneOf_keyiter T ?_)))) | refine wpAny_bind (wpAny_typeNameOf_keyiter T (wpAny_pure (wpAny_bind (wpAny_isOneOf_keyiter T ?_))))
 show wpAny (model prog w) _ (setField (.ref it) 1 (rawInt ((i:Int) + 1)) >>= _) _ _ s
 refine wpAny_bind (wpAny_setField gi di (by simp) ?_)
 have hit':(s.heap.update it (Obj.mapFields (·.setIfInBounds 1 (rawInt ((i:Int) + 1))))).IsKeyIter it d (i + 1) es.size ep :=
  ⟨_,Heap.get?_update_self _ gi (Obj.isFreed_of_fields (Obj.data_mapFields di _)),(Obj.cls_mapFields ..).trans ci,by rw [Obj.data_mapFields di];simp [rawInt]⟩
 refine wpAny_bind (wpAny_holding (wpAny_bind (wpAny_isOneOf_keyiter (s:={ s with heap:=s.heap.update it (Obj.mapFields (·.setIfInBounds 1 (rawInt ((i:Int) + 1)))) }) hit'.typeIs ?_)))
 show wpAny (model prog w) _ (pure e.key) _ _ _
 exact wpAny_pure (wpAny_pure ⟨_,rfl,wpAny_pure (q _ hit' (Heap.SameBut.update ..))⟩)
theorem GF {Q:Option Value->Shared->Prop} (hh:A.handled=none) (hit:s.heap.IsKeyIter it d i es.size ep) (r:jC s.heap d es ep) (hx:es[i]?=none)
  (q:∀ h',Heap.ExtBut it s.heap h'->Q none { s with heap:=h' }):wpAny (model prog w) A (pyNext (.ref it)) Q E s:=by
 obtain ⟨oi,gi,ci,di⟩:=id hit
 obtain ⟨o,g,c,dd⟩:=id r
 have T:=hit.typeIs
 unfold pyNext
 refine wpAny_bind (wpAny_attempt (wpAny_callSpecial?_slot (name:=Str.ofString "__next__") T slot_dict_keyiterator_next (wpAny_call_entry slot_dict_keyiterator_next T entry_dict_keyiterator_next ?_ (args_dict_keyiterator_next_1 _))))
 refine wpAny_bind (wpAny_pure (wpAny_bind (wpAny_bind ?_)))
 first | refine wpAny_bind (wpAny_typeNameOfWhole_keyiter T (wpAny_pure (wpAny_bind (wpAny_fieldsOf gi di ?_)))) | refine wpAny_bind (wpAny_typeNameOf_keyiter T (wpAny_pure (wpAny_bind (wpAny_fieldsOf gi di ?_))))
 simp only [show Builtin.Dict_items.ownsTuple "dict_keyiterator"=false by decide,Bool.false_eq_true,if_false]
 show wpAny (model prog w) _ (if (Value.ref d == Value.none)=true then _ else _) _ _ s
 rw [if_neg (show ¬ ((Value.ref d == Value.none)=true) from Bool.false_ne_true)];refine wpAny_bind (wpAny_pure (wpAny_bind (wpAny_dictEntries g dd ?_)))
 rw [if_neg (by simp)];refine wpAny_bind (wpAny_pure (wpAny_bind (wpAny_dictEpoch g dd ?_)));rw [if_neg (by simp)];refine wpAny_pure ?_
 simp only [show ¬ ((i:Int) < 0) by omega,if_false,Int.toNat_natCast,hx];refine wpAny_bind ?_
 first | refine wpAny_bind (wpAny_typeNameOfWhole_keyiter T (wpAny_pure ?_)) | refine wpAny_bind (wpAny_typeNameOf_keyiter T (wpAny_pure ?_))
 show wpAny (model prog w) _ (setField (.ref it) 0 .none >>= _) _ _ s
 refine wpAny_bind (wpAny_setField gi di (by simp) ?_)
 show wpAny (model prog w) _ (newExc (.type "StopIteration") [] >>= _) _ _ _
 refine wpAny_bind ?_;simp only [newExc,newTuple];refine wpAny_bind (wpAny_newObj_type ?_ (by size_fits))
 refine wpAny_bind (m:=firstArgMember _ _) (wpAny_of_eq (a:=Value.none) (by first | rfl | (simp only [firstArgMember];rfl)) (wpAny_newObj_type ?_ (by size_fits)))
 simp only [raiseNew];refine wpAny_bind (wpAny_handled ?_);rw [show A.in1.handled=none from hh]
 refine wpAny_bind (wpAny_pure (wpAny_throw ?_));refine wpAny_bind (wpAny_isInstance (T:="StopIteration") (b:=true) ⟨_,Heap.get?_push_size _ rfl,rfl⟩ isSubtype_stop ?_)
 exact wpAny_pure (q _ (((Heap.SameBut.update ..).extBut.push _).push _))
theorem Ju (d:Addr) (lo:(d == sysModules)=false):MeetsIn prog w (Builtin.«dict.items» ⟨[.ref d],[]⟩) (fun _ R s=>(∃ es ep,jC s.heap d es ep)/\R (.ok (.ret (.ref s.heap.objs.size))) { s with heap:=s.heap.push { cls:=.type "dict_items",data:=.fields #[.ref d] } }) :=
 .of_wp fun A R s ⟨⟨es,ep,r⟩,h⟩=>by
  unfold Builtin.«dict.items»;refine wpAny_bind ?_
  unfold Builtin.Dict.noArgs;refine wpAny_bind (wpAny_notOrdered_dict r.ty ?_)
  show wpAny (model prog w) _ (pure d) _ _ s;refine wpAny_pure ?_
  show wpAny (model prog w) _ (Builtin.Dict.showsAll d >>= _) _ _ s;unfold Builtin.Dict.showsAll
  rw [if_neg (by rw [lo];decide)];exact wpAny_bind (wpAny_pure (wpAny_bind (wpAny_newObj_type (wpAny_pure ⟨_,rfl,h⟩))))
theorem En {Q:Value->Shared->Prop} (hv:s.heap.IsItemsView vw d) (r:jC s.heap d es ep)
  (q:Q (.ref s.heap.objs.size) { s with heap:=s.heap.push { cls:=.type "dict_itemiterator",data:=.fields #[.none,.bool false,.ref d,.int 0 0,.int es.size 0,.int ep 0,.none,.none] } }):wpAny (model prog w) A (pyIter (.ref vw)) Q E s:=by
 obtain ⟨ov,gv,cv,dv⟩:=id hv
 obtain ⟨o,g,c,dd⟩:=id r
 refine wpAny_pyIter_slot hv.typeIs slot_dict_items_iter (wpAny_call_entry slot_dict_items_iter hv.typeIs entry_dict_items_iter ?_ (args_dict_items_iter_1 _))
 unfold Builtin.«dict_items.__iter__»;refine wpAny_bind (wpAny_pure (wpAny_bind ?_))
 unfold Builtin.Dict_items.dictOf;refine wpAny_bind (wpAny_field gv dv (x:=.ref d) rfl (wpAny_pure (wpAny_bind ?_)))
 unfold Builtin.Dict_items.newIterator;refine wpAny_bind (wpAny_dictEntries g dd (wpAny_bind (wpAny_dictEpoch g dd ?_)))
 simp only [show Builtin.Dict_items.ownsTuple "dict_itemiterator"=true by decide,if_true]
 refine wpAny_newObj_type (wpAny_pure ⟨_,rfl,"dict_itemiterator",_,⟨_,Heap.get?_push_size _ rfl,rfl⟩,slot_dict_itemiterator_next.lookup,?_⟩) (by simp only [sizeOk,Builtin.Dict_items.ownedTupleFields,List.size_toArray,List.length_append,List.length_cons,List.length_nil,sizeLine_eq];omega)
 simpa [rawInt,Builtin.Dict_items.ownedTupleFields] using q
theorem Dg {ok ov:Value} {Q:Option Value->Shared->Prop} (hh:A.handled=none) (hit:IsItemIter s.heap it d i es.size ep ok ov) (r:jC s.heap d es ep) (hx:es[i]?=none)
  (q:∀ h',Heap.ExtBut it s.heap h'->Q none { s with heap:=h' }):wpAny (model prog w) A (pyNext (.ref it)) Q E s:=by
 obtain ⟨o,g,c,dd⟩:=id r
 have T:s.TypeIs (.ref it) "dict_itemiterator":=⟨_,hit,rfl⟩
 unfold pyNext
 refine wpAny_bind (wpAny_attempt (wpAny_callSpecial?_slot (name:=Str.ofString "__next__") T slot_dict_itemiterator_next (wpAny_call_entry slot_dict_itemiterator_next T entry_dict_itemiterator_next ?_ (args_dict_itemiterator_next_1 _))))
 refine wpAny_bind (wpAny_pure (wpAny_bind (wpAny_bind ?_)))
 first | refine wpAny_bind (wpAny_typeNameOfWhole_itemiter T (wpAny_pure (wpAny_bind (wpAny_fieldsOf hit rfl ?_)))) | refine wpAny_bind (wpAny_typeNameOf_itemiter T (wpAny_pure (wpAny_bind (wpAny_fieldsOf hit rfl ?_))))
 simp only [show Builtin.Dict_items.ownsTuple "dict_itemiterator"=true by decide,if_true]
 show wpAny (model prog w) _ (if (Value.ref d == Value.none)=true then _ else _) _ _ s
 rw [if_neg (show ¬ ((Value.ref d == Value.none)=true) from Bool.false_ne_true)];refine wpAny_bind (wpAny_pure (wpAny_bind (wpAny_dictEntries g dd ?_)))
 rw [if_neg (by simp)];refine wpAny_bind (wpAny_pure (wpAny_bind (wpAny_dictEpoch g dd ?_)));rw [if_neg (by simp)];refine wpAny_pure ?_
 simp only [show ¬ ((i:Int) < 0) by omega,if_false,Int.toNat_natCast,hx];refine wpAny_bind ?_
 first | refine wpAny_bind (wpAny_typeNameOfWhole_itemiter T (wpAny_pure ?_)) | refine wpAny_bind (wpAny_typeNameOf_itemiter T (wpAny_pure ?_))
 show wpAny (model prog w) _ (setField (.ref it) 2 .none >>= _) _ _ s
 refine wpAny_bind (wpAny_setField hit rfl (by simp) ?_)
 show wpAny (model prog w) _ (newExc (.type "StopIteration") [] >>= _) _ _ _
 refine wpAny_bind ?_;simp only [newExc,newTuple];refine wpAny_bind (wpAny_newObj_type ?_ (by size_fits))
 refine wpAny_bind (m:=firstArgMember _ _) (wpAny_of_eq (a:=Value.none) (by first | rfl | (simp only [firstArgMember];rfl)) (wpAny_newObj_type ?_ (by size_fits)))
 simp only [raiseNew];refine wpAny_bind (wpAny_handled ?_);rw [show A.in1.handled=none from hh]
 refine wpAny_bind (wpAny_pure (wpAny_throw ?_));refine wpAny_bind (wpAny_isInstance (T:="StopIteration") (b:=true) ⟨_,Heap.get?_push_size _ rfl,rfl⟩ isSubtype_stop ?_)
 exact wpAny_pure (q _ (((Heap.SameBut.update ..).extBut.push _).push _))
theorem CT {ok ov:Value} {Q:Option Value->Shared->Prop} (hit:IsItemIter s.heap it d i es.size ep ok ov) (r:jC s.heap d es ep) (hx:es[i]?=some e)
  (q:∀ h',IsItemIterOut h' it d (i + 1) es.size ep e.key e.val s.heap.objs.size->h'.get? s.heap.objs.size=some { cls:=.type "tuple",data:=.seq #[e.key,e.val] }->h'.objs.size=s.heap.objs.size + 1 ->
   (∀ b o,b≠it->s.heap.get? b=some o->h'.get? b=some o)->Q (some (.ref s.heap.objs.size)) { s with heap:=h' }):wpAny (model prog w) A (pyNext (.ref it)) Q E s:=by
 obtain ⟨hp,gs,dr,tk,os⟩:=s
 obtain ⟨o,g,c,dd⟩:=id r
 have T:Shared.TypeIs ⟨hp,gs,dr,tk,os⟩ (.ref it) "dict_itemiterator":=⟨_,hit,rfl⟩
 unfold pyNext
 refine wpAny_bind (wpAny_attempt (wpAny_callSpecial?_slot (name:=Str.ofString "__next__") T slot_dict_itemiterator_next (wpAny_call_entry slot_dict_itemiterator_next T entry_dict_itemiterator_next ?_ (args_dict_itemiterator_next_1 _))))
 refine wpAny_bind (wpAny_pure (wpAny_bind (wpAny_bind ?_)))
 first | refine wpAny_bind (wpAny_typeNameOfWhole_itemiter T (wpAny_pure (wpAny_bind (wpAny_fieldsOf hit rfl ?_)))) | refine wpAny_bind (wpAny_typeNameOf_itemiter T (wpAny_pure (wpAny_bind (wpAny_fieldsOf hit rfl ?_))))
 simp only [show Builtin.Dict_items.ownsTuple "dict_itemiterator"=true by decide,if_true]
 show wpAny (model prog w) _ (if (Value.ref d == Value.none)=true then _ else _) _ _ _
 rw [if_neg (show ¬ ((Value.ref d == Value.none)=true) from Bool.false_ne_true)];refine wpAny_bind (wpAny_pure (wpAny_bind (wpAny_dictEntries g dd ?_)))
 rw [if_neg (by simp)];refine wpAny_bind (wpAny_pure (wpAny_bind (wpAny_dictEpoch g dd ?_)));rw [if_neg (by simp)];refine wpAny_pure ?_
 simp only [show ¬ ((i:Int) < 0) by omega,if_false,Int.toNat_natCast,hx];refine wpAny_bind ?_
 first | refine wpAny_bind (wpAny_typeNameOfWhole_itemiter T (wpAny_pure (wpAny_bind (wpAny_isOneOf_itemiter T ?_)))) | refine wpAny_bind (wpAny_typeNameOf_itemiter T (wpAny_pure (wpAny_bind (wpAny_isOneOf_itemiter T ?_))))
 show wpAny (model prog w) _ (setField (.ref it) 3 (rawInt ((i:Int) + 1)) >>= _) _ _ ⟨hp,gs,dr,tk,os⟩
 refine wpAny_bind (wpAny_setField_rec hit (by simp) fun h₁ x₁ y₁=>?_)
 replace y₁:Heap.SameBut it hp h₁:=y₁
 replace x₁:IsItemIter h₁ it d (i + 1) es.size ep ok ov:=by
  unfold IsItemIter;rw [show ((i + 1:Nat):Int)=(i:Int) + 1 by omega];simpa [rawInt] using x₁
 have T₁:Shared.TypeIs ⟨h₁,gs,dr,tk,os⟩ (.ref it) "dict_itemiterator":=⟨_,x₁,rfl⟩
 refine wpAny_bind (wpAny_holding (wpAny_bind (wpAny_isOneOf_itemiter T₁ (wpAny_bind (wpAny_isOneOf_itemiter T₁ ?_)))))
 show wpAny (model prog w) _ (Builtin.Dict_items.pairFromOwner (.ref it) 6 e.key e.val) _ _ ⟨h₁,gs,dr,tk,os⟩
 unfold Builtin.Dict_items.pairFromOwner;refine wpAny_bind (wpAny_newTuple ?_)
 have x₂:IsItemIter (h₁.push { cls:=.type "tuple",data:=.seq #[e.key,e.val] }) it d (i + 1) es.size ep ok ov:=Heap.get?_push_of_some _ x₁
 generalize eq₂:h₁.push { cls:=.type "tuple",data:=.seq #[e.key,e.val] }=h₂ at x₂
 have z₁:h₁.objs.size=hp.objs.size:=y₁.1
 have il:it < hp.objs.size:=Heap.lt_size hit
 have t₂:h₂.get? hp.objs.size=some { cls:=.type "tuple",data:=.seq #[e.key,e.val] }:=by rw [<- eq₂,<- z₁];exact Heap.get?_push_size _ rfl
 have z₂:h₂.objs.size=hp.objs.size + 1:=by rw [<- eq₂,Heap.size_push,z₁]
 have k₂:∀ b o,b≠it->hp.get? b=some o->h₂.get? b=some o:=fun b o hb z=>by rw [<- eq₂];exact Heap.get?_push_of_some _ (y₁.extBut b o hb z)
 show wpAny (model prog w) _ (Builtin.Dict_items.ownedTupleIsFree (.ref it) >>= _) _ _ ⟨h₂,gs,dr,tk,os⟩
 rw [z₁];clear eq₂ x₁ y₁ T₁ z₁ h₁;refine wpAny_bind ?_
 unfold Builtin.Dict_items.ownedTupleIsFree;refine wpAny_bind (wpAny_field x₂ rfl (x:=.none) rfl (wpAny_pure ?_));simp only [if_true]
 refine wpAny_bind (wpAny_field x₂ rfl (x:=ok) rfl (wpAny_bind (wpAny_field x₂ rfl (x:=ov) rfl (wpAny_bind (wpAny_setField_rec x₂ (by simp) fun h₃ x₃ y₃=>?_)))))
 replace y₃:Heap.SameBut it h₂ h₃:=y₃
 replace x₃:IsItemIter h₃ it d (i + 1) es.size ep e.key ov:=x₃
 refine wpAny_bind (wpAny_setField_rec x₃ (by simp) fun h₄ x₄ y₄=>?_)
 replace y₄:Heap.SameBut it h₃ h₄:=y₄
 replace x₄:IsItemIter h₄ it d (i + 1) es.size ep e.key e.val:=x₄
 refine wpAny_bind (wpAny_setField_rec x₄ (by simp) fun h₅ x₅ y₅=>?_)
 replace y₅:Heap.SameBut it h₄ h₅:=y₅
 replace x₅:IsItemIterOut h₅ it d (i + 1) es.size ep e.key e.val hp.objs.size:=x₅
 refine wpAny_bind (wpAny_setField_rec x₅ (by simp) fun h₆ x₆ y₆=>?_)
 replace y₆:Heap.SameBut it h₅ h₆:=y₆
 replace x₆:IsItemIterOut h₆ it d (i + 1) es.size ep e.key e.val hp.objs.size:=x₆
 refine wpAny_bind (wpAny_letGo (wpAny_pure (wpAny_pure ⟨_,rfl,wpAny_pure (q h₆ x₆ ?_ ?_ ?_)⟩)))
 ·have n:=Nat.ne_of_gt il
  exact y₆.extBut _ _ n (y₅.extBut _ _ n (y₄.extBut _ _ n (y₃.extBut _ _ n t₂)))
 ·show h₆.objs.size=hp.objs.size + 1;rw [y₆.1,y₅.1,y₄.1,y₃.1,z₂]
 ·exact fun b o hb z=>y₆.extBut b o hb (y₅.extBut b o hb (y₄.extBut b o hb (y₃.extBut b o hb (k₂ b o hb z))))
end
end L2
namespace L2
open PySem PySem.Spec PyProof.Rows
noncomputable def lJ (o:Obj):Array DictEntry:=match o.data with | .dict es _=>es | _=>#[]
noncomputable def Cy (o:Obj):Nat:=match o.data with | .dict _ ep=>ep | _=>0
noncomputable def mG:HO->Nat
 | .dK kvs=>kvs.length
 | .dT kvs=>kvs.length
 | _=>0
noncomputable def yM (H:Hp) (i:Nat) (x:V):HO->Prop
 | .dK kvs=>∃ p,kvs[i]?=some p/\x=kV p.1
 | .dT kvs=>∃ p b,kvs[i]?=some p/\x=.ref b/\H b=some (.tup (p.1.map kV))
 | _=>False
noncomputable def GY (i:Nat) (x:V):HO->Prop
 | .dK kvs=>∃ p,kvs[i]?=some p/\x=p.2
 | .dT kvs=>∃ p,kvs[i]?=some p/\x=p.2
 | _=>False
theorem Rc {P:Program} {w:World} {k:Key} {u:Value} (h:(dS P w).is k u=true):RelV (kV k) u:=by
 rcases fG (show vH k u=true from h) with ⟨i,t,rfl,rfl⟩ | ⟨x,t,rfl,rfl⟩
 ·exact ⟨_,rfl⟩
 ·exact ⟨_,rfl⟩
theorem FV {P:Program} {w:World}:∀ {es:List DictEntry} {vs:List (Key × Value)} {kvs:List (Key × V)},Pairs (dS P w) es vs->KV kvs vs->es.length=kvs.length/\∀ (i:Nat) (e:DictEntry),es[i]?=some e->∃ p,kvs[i]?=some p/\RelV (kV p.1) e.key/\RelV p.2 e.val
 | _,_,_,.nil,.nil=>⟨rfl,fun i e h=>by simp at h⟩
 | _,_,_,.cons h1 h2 t,.cons q r=>by
  obtain ⟨hl,ih⟩:=FV t r
  refine ⟨by simp [hl],fun i e h=>?_⟩
  cases i with
  | zero=>simp at h;subst h;exact ⟨_,rfl,by rw [q.1];exact Rc h1,by rw [h2];exact q.2⟩
  | succ j=>simpa using ih j e (by simpa using h)
theorem nJ {P:Program} {w:World} {H:Hp} {h:Heap} {d:Addr} {o:Obj} {u:HO} (ok:iU P w H h) (e:H d=some (.frz o u)) (dk:U2.sN u=true):jC h d (lJ o) (Cy o)/\(lJ o).size=mG u/\(d == sysModules)=false/\mG u<=sizeLine /\
  ∀ (i:Nat) en,(lJ o)[i]?=some en->∃ k v,yM H i k u/\RelV k en.key/\GY i v u/\RelV v en.val:=by
 obtain ⟨g,hq⟩:=(show c6 P w H h d (.frz o u) from ok d _ e)
 cases u with
 | dK kvs =>
  obtain ⟨z,hs,vs,rel,o',es,ep,g',c',d',kk,pp,nn⟩:=hq
  rw [g] at g';cases g'
  have e1:lJ o=es:=by unfold lJ;rw [d']
  have e2:Cy o=ep:=by unfold Cy;rw [d']
  obtain ⟨hl,pr⟩:=FV pp rel
  rw [e1,e2]
  refine ⟨⟨o,g,c',d'⟩,by simpa [mG] using hl,hs,z,fun i en hi=>?_⟩
  obtain ⟨p,h1,h2,h3⟩:=pr i en (by rw [Array.getElem?_toList];exact hi)
  exact ⟨_,_,⟨p,h1,rfl⟩,h2,⟨p,h1,rfl⟩,h3⟩
 | dT kvs =>
  obtain ⟨z,hs,xs,rel,o',es,ep,g',c',d',pp,nn⟩:=hq
  rw [g] at g';cases g'
  have e1:lJ o=es:=by unfold lJ;rw [d']
  have e2:Cy o=ep:=by unfold Cy;rw [d']
  rw [e1,e2]
  have hl:es.size=kvs.length:=by rw [<- Array.length_toList,pp,List.length_map];exact (Paired.length rel).symm
  have pr:∀ {kvs:List (List Key × V)} {xs:List (List Key × Addr × Value)},Paired (fun (p:List Key × V) (q:List Key × Addr × Value)=>p.1=q.1/\H q.2.1=some (.tup (p.1.map kV))/\RelV p.2 q.2.2) kvs xs->∀ (i:Nat) q,xs[i]?=some q->∃ p,kvs[i]?=some p/\p.1=q.1/\H q.2.1=some (.tup (p.1.map kV))/\RelV p.2 q.2.2:=by
   intro kvs xs r
   induction r with
   | nil=>intro i q h;simp at h
   | cons h t ih =>
    intro i q hq
    cases i with
    | zero=>simp at hq;subst hq;exact ⟨_,rfl,h⟩
    | succ j=>simpa using ih j q (by simpa using hq)
  refine ⟨⟨o,g,c',d'⟩,hl,hs,z,fun i en hi=>?_⟩
  have h0:(xs.map (entryOfKey (tupleKind (dS P w))))[i]?=some en:=by rw [<- pp,Array.getElem?_toList];exact hi
  rw [List.getElem?_map] at h0
  cases hx:xs[i]? with
  | none=>rw [hx] at h0;cases h0
  | some q =>
   rw [hx] at h0;cases h0
   obtain ⟨p,h1,h2,h3,h4⟩:=pr rel i q hx
   exact ⟨.ref q.2.1,p.2,⟨p,q.2.1,h1,rfl,h3⟩,rfl,⟨p,h1,rfl⟩,h4⟩
 | _=>cases dk
noncomputable def RN (d:Addr) (o:Obj) (u:HO):It :=
 ⟨fun i H=>H d=some (.frz o u)/\i < mG u,fun i H x H'=>H'=H/\yM H i x u,fun i H=>H d=some (.frz o u)/\mG u<=i⟩
noncomputable def P0 (d:Addr) (o:Obj) (u:HO):It :=
 ⟨fun i H=>H d=some (.frz o u)/\i < mG u,fun i H x H'=>∃ T k v,yM H i k u/\GY i v u/\H T=none/\x=.ref T/\H'=upd H T (.tup [k,v]),fun i H=>H d=some (.frz o u)/\mG u<=i⟩
theorem Jh {P:Program} {w:World} {K:PySem.W.Frag} {tg:Expr} (d it:Addr) (o:Obj) (u:HO) (dk:U2.sN u=true):Turn P w K tg (RN d o u) [it] it (fun i h=>h.IsKeyIter it d i (lJ o).size (Cy o)) where
 mem:=by simp
 obj:=fun i h st b hb=>by
  have e:b=it:=by simpa using hb
  subst e
  obtain ⟨o,e,c,d⟩:=st
  exact ⟨o,e,fun v z=>by rw [d] at z;cases z⟩
 keep:=fun i h h' st k=>st.at fun o e=>k it (by simp) o e
 item:=by
  intro X hP hw hK hc i pins s σ H E I hf st hg
  subst hP hw hK
  obtain ⟨hq,hx⟩:=hg
  obtain ⟨raw,hlen,hs,_,at'⟩:=nJ I.hok hq dk
  obtain ⟨f0,f1,f2,f3,f4,f5⟩:=hf it (by simp)
  have hil:i < (lJ o).size:=by rw [hlen];exact hx
  obtain ⟨k,v,hk,rk,_,_⟩:=at' i _ (Array.getElem?_eq_getElem hil)
  refine EM st raw (Array.getElem?_eq_getElem hil) fun h' st' sb=>?_
  have I1:Inv X pins σ H { s with heap:=h' }:=I.turned (t':=s.toks) (fun b o hb e=>(sb.2 b hb).trans e) f0 f1 f3 f4 f5
  obtain ⟨ob,e,c,dd⟩:=id st'
  exact ⟨_,rfl,vY (s:={ s with heap:=h' }) e c dd (by decide) ⟨k,H,I1,rk,⟨rfl,hk⟩,st',fun b hb=>(hf b hb).1⟩⟩
 done:=by
  intro X hP hw hK hc i pins s σ H E I hf st hg
  subst hP hw hK
  obtain ⟨hq,hx⟩:=hg
  obtain ⟨raw,hlen,hs,_,at'⟩:=nJ I.hok hq dk
  obtain ⟨f0,f1,f2,f3,f4,f5⟩:=hf it (by simp)
  exact GF (I.ok.hd hc) st raw (Array.getElem?_eq_none (by rw [hlen];exact hx)) fun h' eb=>⟨rfl,I.turned (t':=s.toks) (fun b o hb e=>eb b o hb e) f0 f1 f3 f4 f5⟩
 self:=fun _ _ _ _ _ st h=>wpAny_pyIter_keyiter st h
theorem Bq:entryFor table "dict_itemiterator.__iter__"=some Builtin.«dict_keyiterator.__iter__» :=
 entryFor_alias (id':="dict_keyiterator.__iter__") (by kernel_rfl) (by rfl) (by decide +kernel) (by kernel_rfl)
theorem GN {P:Program} {w:World} {K:PySem.W.Frag} {elts:List Expr} {kk:Nat} {pos:Pos} (d it:Addr) (o:Obj) (u:HO) (dk:U2.sN u=true):Turn P w K (.Tuple elts kk pos) (P0 d o u) [it] it (fun i h=>∃ ok ov,IsItemIter h it d i (lJ o).size (Cy o) ok ov) where
 mem:=by simp
 obj:=fun i h st b hb=>by
  have e:b=it:=by simpa using hb
  subst e
  obtain ⟨ok,ov,e⟩:=st
  exact ⟨_,e,fun v z=>by
   have z':Data.fields _=Data.cell v:=z
   cases z'⟩
 keep:=fun i h h' st k=>let ⟨ok,ov,e⟩:=st;⟨ok,ov,k it (by simp) _ e⟩
 item:=by
  intro X hP hw hK hc i pins s σ H E I hf st hg
  subst hP hw hK
  obtain ⟨ok,ov,st⟩:=st
  obtain ⟨hq,hx⟩:=hg
  obtain ⟨raw,hlen,hs,_,at'⟩:=nJ I.hok hq dk
  have hil:i < (lJ o).size:=by rw [hlen];exact hx
  obtain ⟨k,v,hk,rk,hv,rv⟩:=at' i _ (Array.getElem?_eq_getElem hil)
  refine CT st raw (Array.getElem?_eq_getElem hil) fun h' so ht hz hk2=>?_
  refine ⟨.ref s.heap.objs.size,rfl,wpAny_letOwnedTupleGo_items (s:={ s with heap:=h' }) so fun h'' so2 sb=>?_⟩
  have hTi:s.heap.objs.size≠it:=Nat.ne_of_gt (Heap.lt_size st)
  have hTT:h''.get? s.heap.objs.size=some { cls:=.type "tuple",data:=.seq #[(lJ o)[i].key,(lJ o)[i].val] }:=sb.extBut _ _ hTi ht
  refine ⟨.ref s.heap.objs.size,upd H s.heap.objs.size (.tup [k,v]),U2.nQ (s:=s) (h':=h'') (tk:=s.toks) (ch:=[it]) I hf (fun b o hb q=>?_) (Nat.le_refl _) ⟨by show 2<=sizeLine;decide,[(lJ o)[i].key,(lJ o)[i].val],.cons rk (.cons rv .nil),⟨_,hTT,rfl,_,rfl⟩⟩,rfl,⟨_,k,v,hk,hv,I.hok.fresh (Nat.le_refl _),rfl,rfl⟩,⟨_,_,so2⟩,fun b hb=>?_⟩
  ·have hb':b≠it:=by simpa using hb
   exact sb.extBut b o hb' (hk2 b o hb' q)
  ·have e:b=it:=by simpa using hb
   subst e
   rw [cF (Ne.symm hTi)]
   exact (hf _ hb).1
 done:=by
  intro X hP hw hK hc i pins s σ H E I hf st hg
  subst hP hw hK
  obtain ⟨ok,ov,st⟩:=st
  obtain ⟨hq,hx⟩:=hg
  obtain ⟨raw,hlen,hs,_,at'⟩:=nJ I.hok hq dk
  obtain ⟨f0,f1,f2,f3,f4,f5⟩:=hf it (by simp)
  exact Dg (I.ok.hd hc) st raw (Array.getElem?_eq_none (by rw [hlen];exact hx)) fun h' eb=>⟨rfl,I.turned (t':=s.toks) (fun b o hb e=>eb b o hb e) f0 f1 f3 f4 f5⟩
 self:=fun A i s Q E st h=>by
  obtain ⟨ok,ov,st⟩:=st
  have T:s.TypeIs (.ref it) "dict_itemiterator":=⟨_,st,rfl⟩
  refine wpAny_pyIter_slot T PySem.F.slot_dict_itemiterator_iter (wpAny_call_entry PySem.F.slot_dict_itemiterator_iter T Bq ?_ (PySem.F.args_dict_itemiterator_iter_1 _))
  show wpAny (model P w) _ (ret (.ref it)) _ _ s;exact wpAny_pure ⟨_,rfl,"dict_itemiterator",_,T,PySem.F.slot_dict_itemiterator_next.lookup,h⟩
section
variable {X:Cx} {tg:Expr}
theorem freeze {pins:List (Addr × Obj)} {σ:St} {H:Hp} {s:Shared} {d:Addr} {u:HO} (I:Inv X pins σ H s) (e:H d=some u) (dk:U2.sN u=true):∃ o,Inv X pins σ (upd H d (.frz o u)) s:=by
 have ok:c6 X.prog X.w H s.heap d u:=I.hok d _ e
 have hx:∃ o,s.heap.get? d=some o:=by
  cases u with
  | dK kvs=>obtain ⟨_,_,_,_,o,_,_,h1,_⟩:=ok;exact ⟨o,h1⟩
  | dT kvs=>obtain ⟨_,_,_,_,o,_,_,h1,_⟩:=ok;exact ⟨o,h1⟩
  | _=>cases dk
 obtain ⟨o,g⟩:=hx
 refine ⟨o,?_⟩
 have ok2:c6 X.prog X.w (upd H d (.frz o u)) s.heap d u:=by
  cases u with
  | dK kvs=>exact ok
  | dT kvs =>
   obtain ⟨z,hs,xs,rel,r⟩:=ok
   refine ⟨z,hs,xs,?_,r⟩
   have up:∀ {kvs:List (List Key × V)} {xs:List (List Key × Addr × Value)},Paired (fun (p:List Key × V) (q:List Key × Addr × Value)=>p.1=q.1/\H q.2.1=some (.tup (p.1.map kV))/\RelV p.2 q.2.2) kvs xs->∀ f:HO,Paired (fun (p:List Key × V) (q:List Key × Addr × Value)=>p.1=q.1/\upd H d f q.2.1=some (.tup (p.1.map kV))/\RelV p.2 q.2.2) kvs xs:=by
    intro kvs xs r f
    induction r with
    | nil=>exact .nil
    | cons h t ih=>exact .cons ⟨h.1,by rw [cF (fun z=>by rw [z,e] at h;exact absurd h.2.1 (by simp))];exact h.2.1,h.2.2⟩ ih
   exact up rel _
  | _=>cases dk
 have:=I.write (x:=d) (e:=d) (o:=.frz o u) (h':=s.heap) (t':=s.toks) (by rw [e];cases u <;> first | trivial | cases dk) (.inl rfl) (fun b u _ q=>q) ⟨o,g⟩ ⟨g,ok2⟩
 exact this
noncomputable def zX (H:Hp) (d:Addr) (R:Obj->HO->Hp->Prop):Prop:=∃ u,U2.sN u=true/\((H d=some u/\∀ o,R o u (upd H d (.frz o u)))\/∃ o,H d=some (.frz o u)/\R o u H)
theorem zX.go {pins:List (Addr × Obj)} {σ:St} {H:Hp} {s:Shared} {d:Addr} {R:Obj->HO->Hp->Prop} (I:Inv X pins σ H s) (h:zX H d R):∃ o u H2,Inv X pins σ H2 s/\H2 d=some (.frz o u)/\U2.sN u=true/\R o u H2:=by
 obtain ⟨u,dk,⟨e,r⟩ | ⟨o,e,r⟩⟩:=h
 ·obtain ⟨o,I2⟩:=freeze I e dk
  exact ⟨o,u,_,I2,c5,dk,r o⟩
 ·exact ⟨o,u,H,I,e,dk,r⟩
noncomputable def Ny (tl:TE):TI:=fun σ H R=>tl σ H fun x H1=>∃ d,x=.ref d/\zX H1 d fun o u H2=>R (RN d o u) H2
theorem Pu {l:Expr} {tl:TE} (hl:PE X l tl):PI X tg l (Ny tl):=by
 intro pins s σ H R I h
 refine bR (hl pins s σ H _ I h) fun v s1 ⟨x,H1,I1,r1,q1⟩=>?_
 obtain ⟨d,e,hq⟩:=q1
 subst e
 cases r1
 obtain ⟨o,u,H2,I2,e,dk,q⟩:=hq.go I1
 obtain ⟨raw,hlen,hs,_⟩:=nJ I2.hok e dk
 refine Em hs raw ?_
 refine ⟨s1.heap.objs.size,[s1.heap.objs.size],_,_,H2,rfl,I2.kept (t':=s1.toks) fun b o e=>Heap.get?_push_of_some _ e,Jh d _ o u dk,⟨_,Heap.get?_push_size _ rfl,rfl,rfl⟩,fun b hb=>?_,q⟩
 have e:b=s1.heap.objs.size:=by simpa using hb
 subst e
 exact I2.fpOk (Nat.le_refl _) (I2.hok.fresh (Nat.le_refl _))
noncomputable def Ku (tl:TE):TI:=fun σ H R=>tl σ H fun x H1=>∃ d,x=.ref d/\zX H1 d fun o u H2=>R (P0 d o u) H2
theorem Mk {elts:List Expr} {kk:Nat} {tpos apos cpos:Pos} {l:Expr} {tl:TE} (hl:PE X l tl) (hbase:attributeBase l "items" X.env (eval l X.env)=eval l X.env:=by rfl) (hline:(apos.endLine == cpos.line)=true:=by rfl):PI X (.Tuple elts kk tpos) (.Call (.Attribute l "items" apos) [] [] cpos) (Ku tl):=by
 intro pins s σ H R I h
 refine wpAny_Call_method0_late hbase hline (bR (hl pins s σ H _ I h) fun v s1 ⟨x,H1,I1,r1,q1⟩=>?_)
 obtain ⟨d,e,hq⟩:=q1
 subst e
 cases r1
 obtain ⟨o,u,H2,I2,e,dk,q⟩:=hq.go I1
 obtain ⟨raw,hlen,hs,_⟩:=nJ I2.hok e dk
 refine ⟨"dict","dict.items",PySem.F.plainAttrs_dict,PySem.F.slot_dict_items,PySem.F.type_dict_items,raw.ty,fun b q=>?_,Calls.callWith_builtin rfl (PySem.evalArgs_none ?_)⟩
 ·cases q
  obtain ⟨ob,g,c,_⟩:=raw
  exact ⟨ob,g,c.2.1⟩
 ·refine call_meetsIn PySem.F.slot_dict_items raw.ty PySem.F.entry_dict_items (PySem.F.args_dict_items_1 _) (Ju d hs) ⟨⟨_,_,raw⟩,?_⟩
  have raw2:=raw.at (h':=s1.heap.push { cls:=.type "dict_items",data:=.fields #[.ref d] }) fun o e=>Heap.get?_push_of_some _ e
  show wpAny (model X.prog X.w) X.A (pyIter (.ref s1.heap.objs.size)) _ _ _
  refine En (s:={ s1 with heap:=s1.heap.push { cls:=.type "dict_items",data:=.fields #[.ref d] } }) ⟨_,Heap.get?_push_size _ rfl,rfl,rfl⟩ raw2 ?_
  have hz:(s1.heap.push { cls:=.type "dict_items",data:=.fields #[.ref d] }).objs.size=s1.heap.objs.size + 1:=Heap.size_push ..
  refine ⟨_,[(s1.heap.push { cls:=.type "dict_items",data:=.fields #[.ref d] }).objs.size],_,_,H2,rfl,I2.kept (t':=s1.toks) fun b o e=>Heap.get?_push_of_some _ (Heap.get?_push_of_some _ e),GN d _ o u dk,⟨_,_,Heap.get?_push_size _ rfl⟩,fun b hb=>?_,q⟩
  have e:b=(s1.heap.push { cls:=.type "dict_items",data:=.fields #[.ref d] }).objs.size:=by simpa using hb
  subst e
  exact I2.fpOk (by rw [hz];exact Nat.le_succ _) (I2.hok.fresh (by rw [hz];exact Nat.le_succ _))
theorem Kp {prog:Program} {w:World} {A:Around} (hh:A.handled=none) (I d:Addr) (hne:d≠I) (es:Array DictEntry) (ep:Nat):Walks prog w A I [I,d] [I] es.size (fun i v=>∃ e,es[i]?=some e/\v=e.key) (fun i h=>h.IsKeyIter I d i es.size ep/\jC h d es ep) where
 sub:=fun b hb=>by simp at hb;simp [hb]
 frame:=fun _ _ _ st hk=>⟨st.1.at fun o e=>hk I (by simp) o e,st.2.at fun o e=>hk d (by simp) o e⟩
 item:=fun i s Q E hi st hQ=>EM st.1 st.2 (Array.getElem?_eq_getElem hi) fun h' hit' hs'=>hQ _ h' s.toks ⟨_,Array.getElem?_eq_getElem hi,rfl⟩ ⟨hit',st.2.at fun o e=>hs'.extBut d o hne e⟩ fun b o hb e=>hs'.extBut b o (fun h=>hb (by simp [h])) e
 done:=fun s Q E st hQ=>GF hh st.1 st.2 (Array.getElem?_eq_none (Nat.le_refl _)) fun h' he'=>hQ h' s.toks fun b o hb e=>he' b o (fun h=>hb (by simp [h])) e
 self:=fun _ _ _ _ st hQ=>wpAny_pyIter_keyiter st.1 hQ
theorem Og {prog:Program} {w:World} {d:Addr} (lo:(d == sysModules)=false) (es:Array DictEntry) (ep:Nat):PySem.W.KdlSrc prog w "dict" d d es.size (fun i v=>∃ e,es[i]?=some e/\v=e.key) (fun h=>jC h d es ep) where
 type:=fun _ hm=>hm.ty
 there:=fun _ hm=>⟨hm.lt,hm.lt⟩
 keep:=fun _ _ hm hk=>hm.at fun o e=>hk d (.inl rfl) o e
 notList:=by decide
 notTuple:=by decide
 hint:=fun _ _ _ _ hm hq=>PySem.W.kdl_hint_dict hm.ty hq
 iter:=fun _ _ hh hm=>⟨_,_,(fun _ _ hq=>Em lo hm hq),Kp hh _ d (Nat.ne_of_lt hm.lt) es ep,⟨⟨_,Heap.get?_push_size _ rfl,rfl,rfl⟩,hm.at fun o e=>Heap.get?_push_of_some _ e⟩⟩
noncomputable def KeysAre (H:Hp) (u:HO) (ys:List V):Prop:=ys.length=mG u/\∀ i x,ys[i]?=some x->yM H i x u
noncomputable def RO:List V->Hp->VK->Prop:=fun xs H Q=>∃ d,xs=[.ref d]/\zX H d fun o u H2=>∀ l ys,H2 l=none->KeysAre H2 u ys->Q (.ref l) (upd H2 l (.lst ys))
theorem KR {P:Nat->V->Prop}:∀ (us:List Value),(∀ (i:Nat) u,us[i]?=some u->∃ x,P i x/\RelV x u)->∃ xs:List V,Vals xs us/\∀ i x,xs[i]?=some x->P i x:=by
 intro us
 induction us generalizing P with
 | nil=>exact fun _=>⟨[],.nil,fun i x h=>by simp at h⟩
 | cons u us ih =>
  intro h
  obtain ⟨x,hx,rx⟩:=h 0 u rfl
  obtain ⟨xs,rv,hp⟩:=ih (P:=fun i=>P (i + 1)) fun i u' e=>h (i + 1) u' (by simpa using e)
  refine ⟨x :: xs,.cons rx rv,fun i y e=>?_⟩
  cases i with
  | zero=>simp at e;subst e;exact hx
  | succ j=>exact hp j y (by simpa using e)
theorem Ip (hc:X.calm=true):h8 X (.type "list") RO:=by
 intro pins s σ H xs us Q I r h
 obtain ⟨d,rfl,hq⟩:=h
 obtain ⟨v,rfl,ru⟩:=vals1 r
 cases ru
 obtain ⟨o,u,H2,I2,e,dk,q⟩:=hq.go I
 obtain ⟨raw,hlen,hs,hz,at'⟩:=nJ I2.hok e dk
 refine PySem.W.kdl_call (Og hs (lJ o) (Cy o)) (I2.ok.hd hc) raw (by rw [hlen];exact hz) fun h' tk acc c hk hD hacc=>?_
 obtain ⟨xs,rv,hp⟩:=KR (P:=fun i x=>yM H2 i x u) acc.toList fun i v hv=>by
  obtain ⟨en,e1,rfl⟩:=hacc.2 i v (by rw [<- Array.getElem?_toList];exact hv)
  obtain ⟨k,_,h1,h2,_⟩:=at' i en e1
  exact ⟨k,h1,h2⟩
 have hl:xs.length=mG u:=by rw [rv.length,Array.length_toList,hacc.1,hlen]
 have hn:H2 s.heap.objs.size=none:=I2.hok.fresh (Nat.le_refl _)
 refine ⟨.ref s.heap.objs.size,upd H2 s.heap.objs.size (.lst xs),I2.laid (t':=tk) hk (Nat.le_refl _) ⟨by rw [hl];exact hz,acc.toList,c,rv,by simpa using hD⟩,rfl,q _ xs hn ⟨hl,hp⟩⟩
end
end L2
namespace U2
open PySem PySem.Spec PyProof.Rows L2
noncomputable def keyOf (tk:Bool) (k:List Key):U:=if tk then .tup (k.map kU) else kU (zE k)
noncomputable def hZ (tk:Bool) (ks:List (List Key)):List U:=ks.map (keyOf tk)
noncomputable def kI (tk:Bool) (ks:List (List Key)) (us:List U):List U:=(ks.zip us).map fun p=>.tup [keyOf tk p.1,p.2]
theorem xN (tk:Bool) (ks:List (List Key)):(hZ tk ks).length=ks.length:=by simp [hZ]
noncomputable def zC (u:HO) (ks:List (List Key)) (tk:Bool) (vs:List V):Prop:=match tk with
 | true=>∃ ws,u=.dT ws/\ks=ws.map (·.1)/\vs=ws.map (·.2)
 | false=>∃ ws,u=.dK ws/\ks=ws.map (fun p=>[p.1])/\vs=ws.map (·.2)
section
variable {K:PySem.W.Frag} {H:Hp} {M:aH}
theorem IK (k:Key):aQ K H M (kU k) (kV k):=by cases k <;> simp only [kU,kV,aQ]
theorem FL:∀ k:List Key,aM K H M (k.map kU) (k.map kV)
 | []=>.nil
 | a :: k=>.cons (IK a) (FL k)
theorem RelM.tupNone (rm:RelM K H M) {b:Addr} {ys:List V} (h:H b=some (.tup ys)):M b=none:=by
 cases e:M b with
 | none=>rfl
 | some mo =>
  have r:=rm b mo e
  cases mo with
  | lst us=>obtain ⟨vs,x,_⟩:=r;rw [h] at x;cases x
  | dK us=>obtain ⟨vs,x,_⟩:=r;rw [h] at x;cases x
  | dT us=>obtain ⟨vs,x,_⟩:=r;rw [h] at x;cases x
  | tbl q=>obtain ⟨_,ps,x,_⟩:=r;rw [h] at x;cases x
theorem zC.key {u:HO} {ks:List (List Key)} {tk:Bool} {vs:List V} {i:Nat} {x:V} (d:zC u ks tk vs) (rm:RelM K H M) (h:yM H i x u):∃ k,ks[i]?=some k/\aQ K H M (keyOf tk k) x:=by
 cases tk with
 | true =>
  obtain ⟨ws,rfl,rfl,rfl⟩:=d
  obtain ⟨p,b,h1,rfl,h3⟩:=h
  refine ⟨p.1,by rw [List.getElem?_map,h1];rfl,?_⟩
  show aQ K H M (.tup (p.1.map kU)) (.ref b)
  simp only [aQ]
  exact ⟨b,_,rfl,⟨rm.tupNone h3,h3⟩,FL _⟩
 | false =>
  obtain ⟨ws,rfl,rfl,rfl⟩:=d
  obtain ⟨p,h1,rfl⟩:=h
  exact ⟨[p.1],by rw [List.getElem?_map,h1];rfl,IK _⟩
theorem zC.val {u:HO} {ks:List (List Key)} {tk:Bool} {vs:List V} {i:Nat} {x:V} (d:zC u ks tk vs) (h:GY i x u):vs[i]?=some x:=by
 cases tk with
 | true=>obtain ⟨ws,rfl,rfl,rfl⟩:=d;obtain ⟨p,h1,rfl⟩:=h;rw [List.getElem?_map,h1];rfl
 | false=>obtain ⟨ws,rfl,rfl,rfl⟩:=d;obtain ⟨p,h1,rfl⟩:=h;rw [List.getElem?_map,h1];rfl
theorem zC.len {u:HO} {ks:List (List Key)} {tk:Bool} {vs:List V} (d:zC u ks tk vs):ks.length=mG u/\vs.length=mG u:=by
 cases tk with
 | true=>obtain ⟨ws,rfl,rfl,rfl⟩:=d;simp [mG]
 | false=>obtain ⟨ws,rfl,rfl,rfl⟩:=d;simp [mG]
theorem Ab {ks:List (List Key)} {tk:Bool} {us:List U} {v:V} {R:Addr->Obj->HO->Hp->Prop} (rm:RelM K H M) (r:aQ K H M (.dic ks tk us) v)
  (h:∀ a o u H2 vs,v=.ref a->bA H M H2 M->RelM K H2 M->H2 a=some (.frz o u)->M a=none->zC u ks tk vs->aM K H2 M us vs->R a o u H2):∃ d,v=.ref d/\zX H d (R d):=by
 simp only [aQ] at r
 obtain ⟨a,vs,rfl,m,da,ru⟩:=r
 refine ⟨a,rfl,?_⟩
 have go:∀ u,sN u=true->zC u ks tk vs->Rd H a u->zX H a (R a):=by
  intro u dk dok rd
  rcases rd with e | ⟨o,e⟩
  ·refine ⟨u,dk,.inl ⟨e,fun o=>?_⟩⟩
   have st:bA H M (upd H a (.frz o u)) M:=fun b ob eb mb=>by
    by_cases hb:b=a
    ·subst hb;rw [e] at eb;cases eb
     exact ⟨.inr ⟨dk,o,c5⟩,m⟩
    ·exact ⟨.inl (by rw [cF hb];exact eb),mb⟩
   have rm2:RelM K (upd H a (.frz o u)) M:=fun b mo eb=>(rm b mo eb).stp (fun _ _ z=>z) st (cF (fun z=>by rw [z,m] at eb;cases eb))
   exact h a o u _ vs rfl st rm2 c5 m dok (ru.stp st)
  ·exact ⟨u,dk,.inr ⟨o,e,h a o u H vs rfl (bA.refl _ _) rm e m dok ru⟩⟩
 cases tk with
 | true=>obtain ⟨ws,e,e1,e2⟩:=da;exact go _ rfl ⟨ws,rfl,e1,e2⟩ e
 | false=>obtain ⟨ws,e,e1,e2⟩:=da;exact go _ rfl ⟨ws,rfl,e1,e2⟩ e
theorem uQ {H1:Hp} {M1:aH} {a:Addr} {o:Obj} {u:HO} (st:bA H M H1 M1) (e:H a=some (.frz o u)) (m:M a=none):H1 a=some (.frz o u):=(st.to e m).1
theorem Jc {ks:List (List Key)} {tk:Bool} {vs:List V} {a:Addr} {o:Obj} {u:HO} (e:H a=some (.frz o u)) (m:M a=none) (d:zC u ks tk vs):Walk K (RN a o u) ⟨none,hZ tk ks⟩ H M:=by
 refine ⟨fun H1 M1 s rm _ i w ew=>?_,fun H1 M1 s rm _=>⟨uQ s e m,by show mG u<=(hZ tk ks).length;rw [xN,d.len.1];exact Nat.le_refl _⟩⟩
 have hi:i < ks.length:=by have:=(List.getElem?_eq_some_iff.mp ew).1;simpa [hZ] using this
 refine ⟨⟨uQ s e m,by rw [<- d.len.1];exact hi⟩,fun x H2 y=>?_⟩
 obtain ⟨rfl,y⟩:=y
 refine ⟨bA.refl _ _,rm,?_⟩
 obtain ⟨k,h1,h2⟩:=d.key rm y
 have:(hZ tk ks)[i]?=some (keyOf tk k):=by simp only [hZ,List.getElem?_map,h1,Option.map_some]
 rw [show (Src.mk none (hZ tk ks)).xs[i]?=(hZ tk ks)[i]? from rfl,this] at ew
 cases ew;exact h2
theorem Ic {ks:List (List Key)} {tk:Bool} {us:List U} {vs:List V} {a:Addr} {o:Obj} {u:HO} (e:H a=some (.frz o u)) (m:M a=none) (d:zC u ks tk vs) (ru:aM K H M us vs):Walk K (P0 a o u) ⟨none,kI tk ks us⟩ H M:=by
 have hl:us.length=ks.length:=by rw [ru.length,d.len.2,d.len.1]
 have pl:(kI tk ks us).length=ks.length:=by simp [kI,hl]
 refine ⟨fun H1 M1 s rm _ i w ew=>?_,fun H1 M1 s rm _=>⟨uQ s e m,by show mG u<=(kI tk ks us).length;rw [pl,d.len.1];exact Nat.le_refl _⟩⟩
 have hi:i < ks.length:=by have:=(List.getElem?_eq_some_iff.mp ew).1;rw [<- pl];exact this
 refine ⟨⟨uQ s e m,by rw [<- d.len.1];exact hi⟩,fun x H2 y=>?_⟩
 obtain ⟨T,k,v,hk,hv,hT,rfl,rfl⟩:=y
 obtain ⟨kk,h1,h2⟩:=d.key rm hk
 have h3:=d.val hv
 obtain ⟨z,hz⟩:∃ z,us[i]?=some z:=⟨us[i]'(by omega),List.getElem?_eq_getElem (by omega)⟩
 obtain ⟨v',h4,h5⟩:=ru.get hz
 rw [h3] at h4;cases h4
 have st:=bA.laid (o:=.tup [k,v]) rm hT
 have:(kI tk ks us)[i]?=some (.tup [keyOf tk kk,z]):=by
  have hz':(ks.zip us)[i]?=some (kk,z):=by rw [List.getElem?_zip_eq_some];exact ⟨h1,hz⟩
  simp only [kI,List.getElem?_map,hz',Option.map_some]
 rw [show (Src.mk none (kI tk ks us)).xs[i]?=(kI tk ks us)[i]? from rfl,this] at ew
 cases ew
 have rr:aM K H1 M1 [keyOf tk kk,z] [k,v]:=.cons h2 (.cons (h5.stp s) .nil)
 exact ⟨st,rm.laid hT,vX (rm.no hT) c5 (rr.stp st)⟩
noncomputable def Hi (te:UE):UI:=fun τ M R=>te τ M fun x M1=>match x with
 | .dic ks tk us=>R ⟨none,hZ tk ks⟩ M1
 | _=>False
noncomputable def Dq (te:UE):UI:=fun τ M R=>te τ M fun x M1=>match x with
 | .dic ks tk us=>R ⟨none,kI tk ks us⟩ M1
 | _=>False
theorem M7 {t:TE} {t':UE} (h:cU K t t'):nU K (Ny t) (Hi t'):=fun σ τ H M R' rs rm q R c=>h σ τ H M _ rs rm q _ fun x v M1 H1 s1 rm1 ru h1=>by
 cases x with
 | dic ks tk us=>exact Ab rm1 ru fun a o u H2 vs hv st rm2 e m d r=>c _ _ M1 H2 (s1.trans st) rm2 (Jc e m d) h1
 | _=>exact h1.elim
theorem KZ {t:TE} {t':UE} (h:cU K t t'):nU K (Ku t) (Dq t'):=fun σ τ H M R' rs rm q R c=>h σ τ H M _ rs rm q _ fun x v M1 H1 s1 rm1 ru h1=>by
 cases x with
 | dic ks tk us=>exact Ab rm1 ru fun a o u H2 vs hv st rm2 e m d r=>c _ _ M1 H2 (s1.trans st) rm2 (Ic e m d r) h1
 | _=>exact h1.elim
end
section
variable {D:Dat} {tg e:Expr} {te:UE} {pos p:Pos}
theorem Pf (h:bG D e te):rJ D tg e (Hi te):=by
 obtain ⟨_,q,s⟩:=h
 exact ⟨_,fun X h=>Pu (q X h),M7 s⟩
theorem MV {elts:List Expr} {kk:Nat} {tpos apos cpos:Pos} (h:bG D e te) (hbase:∀ env,attributeBase e "items" env (eval e env)=eval e env:=by intro _;rfl) (hline:(apos.endLine == cpos.line)=true:=by rfl):rJ D (.Tuple elts kk tpos) (.Call (.Attribute e "items" apos) [] [] cpos) (Dq te):=by
 obtain ⟨_,q,s⟩:=h
 exact ⟨_,fun X h=>Mk (q X h) (hbase _) hline,KZ s⟩
noncomputable def DZ (o:Bool):List U->aH->UK->Prop:=fun us M Q=>match us with
 | [.dic ks tk _]=>jL o (hZ tk ks) M Q
 | _=>False
theorem Dh {K:PySem.W.Frag} {H:Hp} {M:aH}:∀ {us:List U} {vs:List V},us.length=vs.length->(∀ (i:Nat) u v,us[i]?=some u->vs[i]?=some v->aQ K H M u v)->aM K H M us vs
 | [],[],_,_=>.nil
 | u :: us,v :: vs,hl,h=>.cons (h 0 u v rfl rfl) (Dh (by simpa using hl) fun i a b h1 h2=>h (i + 1) a b (by simpa using h1) (by simpa using h2))
 | [],_ :: _,hl,_=>by simp at hl
 | _ :: _,[],hl,_=>by simp at hl
theorem Pg (own:Bool:=false):rM D (.type "list") (DZ own):=⟨⟨_,fun X h=>Ip h.calm,fun xs us H M Q' rm rus h Q c=>by
 unfold DZ at h
 split at h
 ·rename_i ks tk ws
  obtain ⟨v,rfl,a1⟩:=rus.one
  obtain ⟨d,rfl,f⟩:=Ab (R:=fun d o u H2=>∀ l ys,H2 l=none->KeysAre H2 u ys->Q (.ref l) (upd H2 l (.lst ys))) rm a1 fun a o u H2 vs hv st rm2 e m dk r l ys hl hk=>by
   have rr:aM D.K H2 M (hZ tk ks) ys:=Dh (by rw [xN,dk.len.1];exact hk.1.symm) fun i w y h1 h2=>by
    obtain ⟨k,h3,h4⟩:=dk.key rm2 (hk.2 i y h2)
    simp only [hZ,List.getElem?_map,h3,Option.map_some,Option.some.injEq] at h1
    rw [<- h1];exact h4
   exact (c.stp st).lst rm2 rr hl h
  exact ⟨d,rfl,f⟩
 ·exact h.elim⟩⟩
end
end U2
namespace U2
open PySem PySem.Spec PyProof.Rows L2
noncomputable def Cv (τ:SU) (M:aH) (τ':SU) (M':aH):Prop:=∀ (K:PySem.W.Frag) (H:Hp) (σ:L2.St),RelM K H M->fI K H M σ τ->bA H M H M'/\RelM K H M'/\fI K H M' σ τ'
noncomputable def QK (t:US):US:=fun D τ M=>t { D with nx:=fun τ1 M1=>∃ τ' M',Cv τ1 M1 τ' M'/\D.nx τ' M' } τ M
theorem NL {D:Dat} {s:Stmt} {t:US} (h:rO D s t):rO D s (QK t):=by
 obtain ⟨u,p,q⟩:=h
 refine ⟨u,p,fun σ τ H M D' rs rm h D d=>q σ τ H M _ rs rm h D ⟨fun σ1 τ1 H1 M1 s1 rm1 rs1 h1=>?_,d.rt,d.bk,d.ct⟩⟩
 obtain ⟨τ',M',c,h2⟩:=h1
 obtain ⟨s2,rm2,rs2⟩:=c _ H1 σ1 rm1 rs1
 exact d.nx σ1 τ' H1 M' (s1.trans s2) rm2 rs2 h2
noncomputable def KP (Q:UK):UK:=fun u M1=>∃ u' M',(∀ (K:PySem.W.Frag) (H:Hp) (v:V),RelM K H M1->aQ K H M1 u v->bA H M1 H M'/\RelM K H M'/\aQ K H M' u' v)/\Q u' M'
theorem Callee.conv {P:Program} {w:World} {K:PySem.W.Frag} {mg:Str->Option Value} {base:Heap} {j:Nat} {x:Str} {sp sp':c8} {dus:List U} (c:Callee P w K mg base j x sp dus) (h:∀ us M Q,sp' us M Q->sp us M (KP Q)):Callee P w K mg base j x sp' dus :=
 let ⟨f,fd,ps,dvs,ds,F,r⟩:=c.ex;⟨f,fd,ps,dvs,ds,F.imp fun vs H Q E ⟨us,M,Q',h1,h2,h3,h4⟩=>⟨us,M,KP Q',h1,h2,h us M Q' h3,fun u v M1 H1 st rm1 ru ⟨u',M',cv,q⟩=>let ⟨s2,rm2,ru2⟩:=cv K H1 v rm1 ru;h4 u' v M' H1 (st.trans s2) rm2 ru2 q⟩,r⟩
section
variable {K:PySem.W.Frag} {H:Hp} {M1 M':aH}
theorem yB {κ:Type}:∀ {kvs:List (κ × U)} {ws:List (κ × V)} {M:aH},dX K H M kvs ws->kvs.map (·.1)=ws.map (·.1)/\aM K H M (kvs.map (·.2)) (ws.map (·.2))
 | _,_,_,.nil=>⟨rfl,.nil⟩
 | _,_,_,.cons h t=>by
  obtain ⟨h1,h2⟩:=yB t
  refine ⟨?_,.cons h.2 h2⟩
  rw [List.map_cons,List.map_cons,h1,h.1]
noncomputable def eG (kvs:List (Key × U)):U:=.dic (kvs.map fun e=>[e.1]) false (kvs.map (·.2))
noncomputable def nR (kvs:List (List Key × U)):U:=.dic (kvs.map (·.1)) true (kvs.map (·.2))
theorem jY (M:aH) (kvs:List (Key × U)):kC M (eG kvs)=some (.dK kvs):=by
 have e:∀ l:List (Key × U),((l.map fun e=>[e.1]).map zE).zip (l.map (·.2))=l:=by
  intro l
  induction l with
  | nil=>rfl
  | cons a r ih=>simp only [List.map_cons,List.zip_cons_cons,ih,zE]
 simp only [eG,kC,e]
theorem EF (M:aH) (kvs:List (List Key × U)):kC M (nR kvs)=some (.dT kvs):=by
 have e:∀ l:List (List Key × U),(l.map (·.1)).zip (l.map (·.2))=l:=by
  intro l
  induction l with
  | nil=>rfl
  | cons a r ih=>simp only [List.map_cons,List.zip_cons_cons,ih]
 simp only [nR,kC,e]
theorem DM {kvs:List (Key × U)} {a:Addr} (rm:RelM K H M1) (h:M1 a=some (.dK kvs)) (hn:M' a=none) (st:bA H M1 H M'):aQ K H M' (eG kvs) (.ref a):=by
 obtain ⟨ws,h1,r⟩:=rm a _ h
 obtain ⟨h2,h3⟩:=yB r
 refine ⟨a,ws.map (·.2),rfl,hn,⟨ws,.inl h1,?_,rfl⟩,h3.stp st⟩
 have:=congrArg (List.map fun k:Key=>[k]) h2
 rw [List.map_map,List.map_map] at this
 exact this
theorem Ma {kvs:List (List Key × U)} {a:Addr} (rm:RelM K H M1) (h:M1 a=some (.dT kvs)) (hn:M' a=none) (st:bA H M1 H M'):aQ K H M' (nR kvs) (.ref a):=by
 obtain ⟨ws,h1,r⟩:=rm a _ h
 obtain ⟨h2,h3⟩:=yB r
 exact ⟨a,ws.map (·.2),rfl,hn,⟨ws,.inl h1,h2,rfl⟩,h3.stp st⟩
theorem O6 {us:List U} {a:Addr} (rm:RelM K H M1) (h:M1 a=some (.lst us)) (hn:M' a=none) (st:bA H M1 H M'):aQ K H M' (.lst us) (.ref a):=by
 obtain ⟨vs,h1,r⟩:=rm a _ h
 exact vB hn h1 (r.stp st)
theorem GA {κ:Type} {kvs kvs':List (κ × U)} {ws:List (κ × V)} (r:dX K H M1 kvs ws) (hl:kvs.length=kvs'.length) (h:∀ (i:Nat) p p',kvs[i]?=some p->kvs'[i]?=some p'->p.1=p'.1/\∀ x,aQ K H M1 p.2 x->aQ K H M' p'.2 x):dX K H M' kvs' ws:=by
 induction r generalizing kvs' with
 | nil=>cases kvs' with
  | nil=>exact .nil
  | cons a r=>simp at hl
 | cons q t ih=>cases kvs' with
  | nil=>simp at hl
  | cons a r =>
   obtain ⟨h1,h2⟩:=h 0 _ _ rfl rfl
   exact .cons ⟨h1 ▸ q.1,h2 _ q.2⟩ (ih (by simpa using hl) fun i p p' e1 e2=>h (i + 1) p p' (by simpa using e1) (by simpa using e2))
end
theorem F2 {τ:SU} {M:aH} {k r:Addr} {xs:List (List Key × U)} {key:List Key} {kvs:List (Key × U)} (hr:M r=none) (hk:k≠r):Cv τ (mup (mup M k (.dT (xs++[(key,.ref r)]))) r (.dK kvs)) τ (mup M k (.dT (xs++[(key,eG kvs)]))):=by
 intro K H σ rm rs
 generalize hM1:mup (mup M k (.dT (xs++[(key,.ref r)]))) r (.dK kvs)=M1 at *
 generalize hM':mup M k (.dT (xs++[(key,eG kvs)]))=M' at *
 have a1:M1 r=some (.dK kvs):=by rw [<- hM1,aI]
 have ak:M1 k=some (.dT (xs++[(key,.ref r)])):=by rw [<- hM1,aK hk,aI]
 have n1:M' r=none:=by rw [<- hM',aK (Ne.symm hk)];exact hr
 have oth:∀ b,b≠k->b≠r->M1 b=M b/\M' b=M b:=fun b b1 b2=>by rw [<- hM1,<- hM',aK b2,aK b1,aK b1];exact ⟨rfl,rfl⟩
 have st:bA H M1 H M':=bA.less fun b hb=>by
  have b1:b≠k:=fun z=>by subst z;rw [ak] at hb;cases hb
  have b2:b≠r:=fun z=>by subst z;rw [a1] at hb;cases hb
  obtain ⟨o1,o2⟩:=oth b b1 b2
  rw [o2,<- o1];exact hb
 refine ⟨st,fun a mo e=>?_,rs.stp st⟩
 by_cases e1:a=k
 ·subst e1
  rw [<- hM',aI] at e;cases e
  obtain ⟨ws,g1,q⟩:=rm a _ ak
  refine ⟨ws,g1,GA q (by simp) fun i p p' h1 h2=>?_⟩
  by_cases hi:i < xs.length
  ·rw [List.getElem?_append_left hi] at h1 h2
   rw [h1] at h2;cases h2
   exact ⟨rfl,fun x rx=>rx.stp st⟩
  ·rw [List.getElem?_append_right (by omega)] at h1 h2
   cases hj:i - xs.length with
   | zero =>
    rw [hj] at h1 h2
    simp at h1 h2
    subst h1;subst h2
    exact ⟨rfl,fun x rx=>by rw [rx.ref];exact DM rm a1 n1 st⟩
   | succ j=>rw [hj] at h1;simp at h1
 ·have e2:a≠r:=fun z=>by subst z;rw [n1] at e;cases e
  obtain ⟨o1,o2⟩:=oth a e1 e2
  rw [o2,<- o1] at e
  refine (rm a mo e).stp (fun b q z=>?_) st rfl
  have b1:b≠k:=fun y=>by subst y;rw [<- hM',aI] at z;cases z
  have b2:b≠r:=fun y=>by subst y;rw [n1] at z;cases z
  rw [(oth b b1 b2).1,<- (oth b b1 b2).2];exact z
theorem DL {M M1:aH} {a:Addr} {kvs:List (Key × U)} {Q:UK} (hs:Sub M M1) (ha:M1 a=some (.dK kvs)) (hn:M a=none) (q:Q (eG kvs) M):KP Q (.ref a) M1 :=
 ⟨_,M,fun K H v rm ru=>⟨hs.less,rm.sub hs,by rw [ru.ref];exact DM rm ha hn hs.less⟩,q⟩
theorem F0 {M M1:aH} {a:Addr} {kvs:List (List Key × U)} {Q:UK} (hs:Sub M M1) (ha:M1 a=some (.dT kvs)) (hn:M a=none) (q:Q (nR kvs) M):KP Q (.ref a) M1 :=
 ⟨_,M,fun K H v rm ru=>⟨hs.less,rm.sub hs,by rw [ru.ref];exact Ma rm ha hn hs.less⟩,q⟩
theorem OM {M M1:aH} {a:Addr} {l:List (Key × Addr × List U)} {Q:UK} (hs:Sub M M1) (ha:M1 a=some (.dK (l.map fun e=>(e.1,.ref e.2.1)))) (hl:∀ e∈l,M1 e.2.1=some (.lst e.2.2)/\M e.2.1=none) (hn:M a=none) (q:Q (eG (l.map fun e=>(e.1,.lst e.2.2))) M):KP Q (.ref a) M1 :=
 ⟨_,M,fun K H v rm ru=>⟨hs.less,rm.sub hs,by
  rw [ru.ref]
  have st:bA H M1 H M:=hs.less
  obtain ⟨ws,h1,r⟩:=rm a _ ha
  have r2:dX K H M (l.map fun e=>(e.1,U.lst e.2.2)) ws:=GA r (by simp) fun i p p' e1 e2=>by
   rw [List.getElem?_map] at e1 e2
   cases hj:l[i]? with
   | none=>rw [hj] at e1;cases e1
   | some e =>
    rw [hj] at e1 e2;cases e1;cases e2
    obtain ⟨h3,h4⟩:=hl e (List.mem_of_getElem? hj)
    exact ⟨rfl,fun x rx=>by rw [rx.ref];exact O6 rm h3 h4 st⟩
  obtain ⟨h2,h3⟩:=yB r2
  refine ⟨a,ws.map (·.2),rfl,hn,⟨ws,.inl h1,?_,rfl⟩,h3⟩
  have:=congrArg (List.map fun k:Key=>[k]) h2
  rw [List.map_map,List.map_map (l:=ws)] at this
  exact this⟩,q⟩
end U2
namespace L2
open PySem PySem.Spec PyProof.Rows
section
variable {X:Cx} {o e f:Expr} {apos cpos:Pos} {td ty tx:TE}
noncomputable def SG (td ty tx:TE):TE:=fun σ H Q=>td σ H fun x H1=>∃ a,x=.ref a/\NR H1 a/\ty σ H1 fun y H2=>tx σ H2 fun z H3=>∃ kvs k,H3 a=some (.dK kvs)/\y=kV k/\kvs.length < sizeLine /\
 (∀ v,kB kvs k=some v->Q v H3)/\(kB kvs k=none->Q z (upd H3 a (.dK (putK kvs k z))))
theorem Pm (ho:PE X o td) (he:PE X e ty) (hf:PE X f tx) (m:M2 X o "setdefault" apos e f cpos):PE X (.Call (.Attribute o "setdefault" apos) [e,f] [] cpos) (SG td ty tx):=by
 intro pins s σ H Q I h
 refine wpAny_Call_method m.base m.few m.line PySem.F.plainAttrs_dict PySem.F.slot_dict_setdefault PySem.F.type_dict_setdefault (bR (ho pins s σ H _ I h) fun u s1 ⟨x,H1,I1,rx,a,ex,d,q1⟩=>?_)
 subst ex
 obtain rfl:u=Value.ref a:=rx
 obtain ⟨t1,t2,_⟩:=Kn I1 d
 refine ⟨t1,t2,?_⟩
 rw [m.trees]
 refine Calls.callWith_builtin rfl (Calls.evalArgs_plain (Calls.spliced_cons (bR (he pins s1 σ H1 _ I1 q1) fun iv s2 ⟨y,H2,I2,ry,q2⟩ =>
  Calls.spliced_cons (bR (hf pins s2 σ H2 _ I2 q2) fun fv s3 ⟨z,H3,I3,rz,kvs,k,ea,ey,hl,q3,q4⟩=>Calls.spliced_nil ?_))))
 subst ey
 obtain ⟨hz,hd,vs,rel,dd⟩:=Ng I3.hok ea
 refine call_meetsIn PySem.F.slot_dict_setdefault dd.typeIs PySem.F.entry_dict_setdefault (PySem.F.args_dict_setdefault_3 _ _ _) (PySem.kt_meets_setdefault (dS X.prog X.w) a (A3 ry) hd fv) ⟨vs,dd,by rw [<- rel.length];exact hz,fun v hv=>?_,fun hv h' dd' hs=>?_⟩
 ·have:=rel.val k
  rw [hv] at this
  cases hk:kB kvs k with
  | none=>rw [hk] at this;exact this.elim
  | some w=>rw [hk] at this;exact ⟨w,H3,I3.tok _,this,q3 w hk⟩
 ·have:=rel.val k
  rw [hv] at this
  cases hk:kB kvs k with
  | some w=>rw [hk] at this;exact this.elim
  | none =>
   have he:∃ q,h'.get? a=some q:=let ⟨q,_,_,hq,_⟩:=dd';⟨q,hq⟩
   exact ⟨z,_,BB I3 (by rw [ea];exact True.intro) hs he (Jv (by have:=tE kvs k z;omega) hd (rel.put k rz) dd'),rz,q4 hk⟩
end
end L2
namespace U2
open PySem PySem.Spec PyProof.Rows L2
noncomputable def NQ (to ti tx:UE):UE:=fun τ M Q=>to τ M fun x M1=>wL M1 x=true/\ti τ M1 fun y M2=>tx τ M2 fun z M3=>match x with
 | .ref a=>match M3 a,kW y with
  | some (.dK kvs),some k=>kvs.length < sizeLine/\match cD kvs k with
   | some v=>Q v M3
   | none=>Q z (mup M3 a (.dK (jJ kvs k z)))
  | _,_=>False
 | _=>False
theorem CU {D:Dat} {o e f:Expr} {to te tf:UE} {apos pos:Pos} (ho:bG D o to) (hi:bG D e te) (hf:bG D f tf) (hbase:∀ env,attributeBase o "setdefault" env (eval o env)=eval o env:=by intro _;rfl)
  (hfew:∀ env,((backTo pos (starEach [e,f] env)).all (fun x=>!x.1) && (backToKw pos (keywordEach [] env)).all (fun x=>x.1.isSome) && decide ([e,f].length + ([]:List Keyword).length + (if ([]:List Keyword).isEmpty then 0 else 1) < 30))=true:=by intro _;rfl)
  (hline:(apos.endLine == pos.line)=true:=by rfl) (hs:∀ env,backTo pos (starEach [e,f] env)=[(false,eval e env),(false,eval f env)]:=by intro _;rfl):bG D (.Call (.Attribute o "setdefault" apos) [e,f] [] pos) (NQ to te tf):=by
 obtain ⟨_,p1,s1⟩:=ho;obtain ⟨_,p2,s2⟩:=hi;obtain ⟨_,p3,s3⟩:=hf
 refine ⟨_,fun X h=>Pm (p1 X h) (p2 X h) (p3 X h) ⟨hbase _,hfew _,hline,hs _⟩,fun σ τ H M Q' rs rm h Q c=>?_⟩
 refine s1 σ τ H M _ rs rm h _ fun x vx M1 H1 st1 rm1 rx h1=>?_
 obtain ⟨hd,h1⟩:=h1
 obtain ⟨a,rfl,hd⟩:=Ez rm1 rx hd
 refine ⟨a,rfl,hd,s2 σ τ H1 M1 _ (rs.stp st1) rm1 h1 _ fun y vy M2 H2 eD rm2 ry h2=>s3 σ τ H2 M2 _ ((rs.stp st1).stp eD) rm2 h2 _ fun z vz M3 H3 st3 rm3 rz h3=>?_⟩
 cases x with
 | ref b =>
  cases (rx.stp (eD.trans st3)).ref
  dsimp only at h3
  split at h3
  ·rename_i kvs k e1 e2
   obtain ⟨hl,h3⟩:=h3
   obtain ⟨ws,hv,r⟩:=rm3 a _ e1
   have:=v8 (ry.stp st3) e2
   subst this
   have rv:=r.val k
   refine ⟨ws,k,hv,rfl,by rw [<- r.length];exact hl,fun v hv2=>?_,fun hv2=>?_⟩
   ·rw [hv2] at rv
    cases hk:cD kvs k with
    | none=>rw [hk] at rv;exact rv.elim
    | some w=>rw [hk] at rv h3;exact c w v M3 H3 ((st1.trans eD).trans st3) rm3 rv h3
   ·rw [hv2] at rv
    cases hk:cD kvs k with
    | some w=>rw [hk] at rv;exact rv.elim
    | none =>
     rw [hk] at h3
     have st4:bA H3 M3 (upd H3 a (.dK (putK ws k vz))) (mup M3 a (.dK (jJ kvs k z))):=bA.write e1
     exact c z vz _ _ (((st1.trans eD).trans st3).trans st4) (rm3.put st4 ⟨_,c5,(r.put k rz).stp st4⟩) (rz.stp st4) h3
  ·exact h3.elim
 | _=>exact h3.elim
end U2
namespace U2
open PySem PySem.Spec PyProof.Rows L2
theorem AQ:isSubtype (.type "range_iterator") (.type "reversed")=pure false:=by rw [isSubtype_type];kernel_rfl
noncomputable def k6 (lo n:Int):Obj:={ cls:=.type "range_iterator",data:=.fields #[rawInt lo,rawInt n,rawInt (-1)] }
section
variable {prog:Program} {w:World} {A:Around} {E:Value->Shared->Prop} {s:Shared} {r:Addr} {a b:Int} {t u v:Tok}
theorem G6 {Q:Value->Shared->Prop} (hr:IsRange s.heap r a b 1 t u v) (h1:-(2 ^ 62)<=a) (h2:a < 2 ^ 62) (h3:-(2 ^ 62)<=b) (h4:b < 2 ^ 62)
  (h:Q (.ref s.heap.objs.size) { s with heap:=s.heap.push (k6 (a + (Builtin.Range.rangeSize a b 1 - 1)) (Builtin.Range.rangeSize a b 1)) }):wpAny (model prog w) A (call (.builtin "range.__reversed__") [.ref r]) Q E s:=by
 have T:s.TypeIs (.ref r) "range":=⟨_,hr,rfl⟩
 refine wpAny_call_entry PySem.F.slot_range_reversed T PySem.F.entry_range_reversed ?_ (PySem.F.args_range_reversed_1 _)
 unfold Builtin.«range.__reversed__»
 refine wpAny_bind (wpAny_of_eq (a:=Value.ref r) rfl (wpAny_bind ?_))
 unfold Builtin.Range.rangeFields
 refine wpAny_bind (wpAny_field hr rfl (x:=.int a t) rfl (wpAny_bind (wpAny_of_eq (a:=some a) rfl ?_)))
 refine wpAny_bind (wpAny_field hr rfl (x:=.int b u) rfl (wpAny_bind (wpAny_of_eq (a:=some b) rfl ?_)))
 refine wpAny_bind (wpAny_field hr rfl (x:=.int 1 v) rfl (wpAny_bind (wpAny_of_eq (a:=some 1) rfl (wpAny_pure ?_))))
 have hn:0<=Builtin.Range.rangeSize a b 1/\Builtin.Range.rangeSize a b 1 < 2 ^ 63:=by
  unfold Builtin.Range.rangeSize
  simp only [show (1:Int) > 0 by decide,if_true]
  split <;> omega
 have sm:(Builtin.Range.rangeFitsLong a && Builtin.Range.rangeFitsLong b && Builtin.Range.rangeFitsLong 1 && Builtin.Range.rangeFitsLong (-1) && Builtin.Range.rangeFitsLong (a - 1) && Builtin.Range.rangeFitsLong (Builtin.Range.rangeSize a b 1))=true:=by
  simp only [Builtin.Range.rangeFitsLong,Bool.and_eq_true,decide_eq_true_eq]
  omega
 simp only [sm,Bool.not_true,Bool.false_eq_true,if_false,if_true]
 unfold newFields
 refine wpAny_bind (wpAny_newObj_type (wpAny_pure ⟨_,rfl,?_⟩))
 have e:a + (Builtin.Range.rangeSize a b 1 - 1) * 1=a + (Builtin.Range.rangeSize a b 1 - 1):=by omega
 rw [e];exact h
theorem KS {Q₁:Value->Shared->Prop} (hr:IsRange s.heap r a b 1 t u v) (h1:-(2 ^ 62)<=a) (h2:a < 2 ^ 62) (h3:-(2 ^ 62)<=b) (h4:b < 2 ^ 62)
  (h:Q₁ (.ref s.heap.objs.size) { s with heap:=s.heap.push (k6 (a + (Builtin.Range.rangeSize a b 1 - 1)) (Builtin.Range.rangeSize a b 1)) }):codeAny (model prog w) A (.call (.builtin "reversed.__new__") ⟨[.type "reversed",.ref r],[]⟩) (wants Q₁ E) s:=by
 have T:s.TypeIs (.ref r) "range":=⟨_,hr,rfl⟩
 refine codeAny_of_tree ?_
 show wpAny (model prog w) A.in1 (do checkBuiltinCall "reversed.__new__" ⟨[.type "reversed",.ref r],[]⟩;again (.builtin "reversed.__new__" ⟨[.type "reversed",.ref r],[]⟩)) _ _ s
 refine wpAny_bind (wpAny_of_eq (PySem.F.newCall_reversed_1 _) (wpAny_pure ⟨plainId_quiet PySem.F.plain_reversed_new _,codeAny_builtin PySem.F.entry_reversed_new ?_⟩))
 rw [Around.under_plainId PySem.F.plain_reversed_new _];unfold Builtin.«reversed.__new__»
 refine wpAny_bind (wpAny_of_eq (newClass_reversed _) ?_);try dsimp only
 refine wpAny_bind (wpAny_of_eq (a:=()) (by first | rfl | kernel_rfl) (wpAny_bind (wpAny_of_eq (a:=()) (by first | rfl | kernel_rfl) ?_)));try dsimp only
 refine wpAny_bind (wpAny_specialOf T PySem.F.slot_range_reversed.lookup ?_);try dsimp only
 refine wpAny_bind (wpAny_of_eq (PySem.F.slot_range_reversed.bind _) ?_);try dsimp only
 first | rw [if_neg (show ¬ ((Value.builtin "range.__reversed__" == Value.none)=true) from Bool.false_ne_true)] | (show wpAny (model prog w) _ (if (Value.builtin "range.__reversed__" == Value.none)=true then _ else _) _ _ _;rw [if_neg (show ¬ ((Value.builtin "range.__reversed__" == Value.none)=true) from Bool.false_ne_true)])
 refine wpAny_bind (wpAny_rule (wpAny_bind (m:=runValue (.call (.builtin "range.__reversed__") ⟨[.ref r],[]⟩)) (show wpAny (model prog w) _ (call (.builtin "range.__reversed__") [.ref r]) _ _ _ from G6 hr h1 h2 h3 h4 ?_)))
 first | exact wpAny_pure h | exact wpAny_bind (wpAny_pure (wpAny_pure h))
theorem Le {Q:Value->Shared->Prop} (hr:IsRange s.heap r a b 1 t u v) (h1:-(2 ^ 62)<=a) (h2:a < 2 ^ 62) (h3:-(2 ^ 62)<=b) (h4:b < 2 ^ 62)
  (h:Q (.ref s.heap.objs.size) { s with heap:=s.heap.push (k6 (a + (Builtin.Range.rangeSize a b 1 - 1)) (Builtin.Range.rangeSize a b 1)) }):wpAny (model prog w) A (call (.type "reversed") [.ref r]) Q E s:=by
 refine callType_other (U:="range_iterator") (Q₁:=fun obj s₁=>obj=.ref s.heap.objs.size/\s₁={ s with heap:=s.heap.push (k6 (a + (Builtin.Range.rangeSize a b 1 - 1)) (Builtin.Range.rangeSize a b 1)) }) (by decide +kernel) PySem.F.create_reversed ⟨_,_,PySem.F.mro_reversed⟩ PySem.F.made_reversed AQ (PySem.F.typeCall_reversed_1 _) (KS hr h1 h2 h3 h4 ⟨rfl,rfl⟩) ?_
 rintro obj s₁ ⟨rfl,rfl⟩
 exact ⟨⟨_,Heap.get?_push_size _ rfl,rfl⟩,h⟩
end
noncomputable def Ep (lo:Int) (n:Nat):It:=⟨fun i _=>i < n,fun i H x H'=>H'=H/\x=.int (lo - i),fun i _=>n<=i⟩
theorem Cg {P:Program} {w:World} {K:PySem.W.Frag} {tg:Expr} (it:Addr) (lo:Int) (n:Nat):Turn P w K tg (Ep lo n) [it] it (fun i h=>IsRangeIter h it (lo + (i:Nat) * -1) ((n:Int) - (i:Nat)) (-1)) where
 mem:=by simp
 obj:=fun i h st b hb=>by
  have e:b=it:=by simpa using hb
  subst e
  exact ⟨_,st,fun v z=>by
   have z':Data.fields _=Data.cell v:=z
   cases z'⟩
 keep:=fun i h h' st k=>k it (by simp) _ st
 item:=by
  intro X hP hw hK hc i pins s σ H E I hf st hg
  subst hP hw hK
  obtain ⟨f0,f1,f2,f3,f4,f5⟩:=hf it (by simp)
  have W:=Walks.range (prog:=X.prog) (w:=X.w) (I.ok.hd hc) it lo (-1) n
  refine W.item i s _ _ hg st fun v h' tk hv st' kk=>?_
  obtain ⟨t,rfl⟩:=hv
  have I1:L2.Inv X pins σ H { s with heap:=h',toks:=tk }:=I.turned (fun b o hb e=>kk b o (by simpa using hb) e) f0 f1 f3 f4 f5
  have e:lo + (i:Int) * -1=lo - i:=by omega
  refine ⟨_,rfl,vY (s:={ s with heap:=h',toks:=tk }) (n:="range_iterator") st' rfl rfl (by decide) ⟨.int (lo - i),H,I1,⟨t,by rw [e]⟩,⟨rfl,rfl⟩,st',fun b hb=>(hf b hb).1⟩⟩
 done:=by
  intro X hP hw hK hc i pins s σ H E I hf st hg
  subst hP hw hK
  obtain ⟨f0,f1,f2,f3,f4,f5⟩:=hf it (by simp)
  exact wpAny_pyNext_range_end (I.ok.hd hc) st (by have:n<=i:=hg;omega) fun h' eb=>⟨rfl,I.turned (t':=s.toks) (fun b o hb e=>eb b o hb e) f0 f1 f3 f4 f5⟩
 self:=fun _ _ _ _ _ st h=>wpAny_pyIter_rangeiter st h
noncomputable def QR (ta:TA):TE:=fun σ H Q=>ta σ H fun vs H1=>∃ i j:Int,vs=[.int i,.int j]/\∀ r,H1 r=none->Q (.ref r) (upd H1 r (.rng i j))
section
variable {X:Cx} {tg a b e:Expr} {ta:TA} {te:TE} {p pos:Pos}
theorem RR (hg:Gl X "range") (hm:X.mg "range"=none) (ha:PA X [a,b] ta) (hs:starEach [a,b] X.env=[(false,eval a X.env),(false,eval b X.env)]) (hs2:starEach [b] X.env=[(false,eval b X.env)]):PE X (.Call (.Name "range" p) [a,b] [] pos) (QR ta):=by
 intro pins s σ H Q I h
 refine Call_ (lX I hg hm boot_range (PyProof.Rows.callWith_type1 (bR (ha pos pins s σ H _ I h) fun us s1 ⟨vs,H1,I1,r1,q1⟩=>?_) (by rw [hs,hs2]) (by rw [hs2];rfl)))
 obtain ⟨i,j,e,q⟩:=q1
 subst e
 cases r1 with
 | cons r rr=>cases rr with
  | cons r' rr =>
   cases rr
   obtain ⟨t,rfl⟩:=r
   obtain ⟨t',rfl⟩:=r'
   exact call_range_2 ⟨.ref s1.heap.objs.size,upd H1 s1.heap.objs.size (.rng i j),I1.laid (t':=s1.toks + 1) (fun b o e=>Heap.get?_push_of_some _ e) (Nat.le_refl _) ⟨t,t',s1.toks,Heap.get?_push_size _ rfl⟩,rfl,q _ (I1.hok.fresh (Nat.le_refl _))⟩
noncomputable def NB (te:TE):TI:=fun σ H R=>te σ H fun x H1=>∃ a i j,x=.ref a/\H1 a=some (.rng i j)/\(-(2 ^ 62)<=i/\i < 2 ^ 62/\-(2 ^ 62)<=j/\j < 2 ^ 62)/\R (Ep (j - 1) (j - i).toNat) H1
theorem OY (hg:Gl X "reversed") (hm:X.mg "reversed"=none) (he:PE X e te) (hs:starEach [e] X.env=[(false,eval e X.env)]):PI X tg (.Call (.Name "reversed" p) [e] [] pos) (NB te):=by
 intro pins s σ H R I h
 have ha:PA X [e] (Hc te Ei):=F4 he JJ hs
 refine Call_ (lX I hg hm boot_reversed (PyProof.Rows.callWith_type1 (bR (ha pos pins s σ H (fun vs H1=>∃ x,vs=[x]/\∃ a i j,x=.ref a/\H1 a=some (.rng i j)/\(-(2 ^ 62)<=i/\i < 2 ^ 62/\-(2 ^ 62)<=j/\j < 2 ^ 62)/\R (Ep (j - 1) (j - i).toNat) H1) I ?_) fun us s1 ⟨vs,H1,I1,r1,q1⟩=>?_) hs rfl))
 ·exact (show te σ H _ from by
   have:(fun x H1=>Ei σ H1 fun xs H2=>∃ x',x :: xs=[x']/\∃ a i j,x'=.ref a/\H2 a=some (.rng i j)/\(-(2 ^ 62)<=i/\i < 2 ^ 62/\-(2 ^ 62)<=j/\j < 2 ^ 62)/\R (Ep (j - 1) (j - i).toNat) H2)=fun x H1=>∃ a i j,x=.ref a/\H1 a=some (.rng i j)/\(-(2 ^ 62)<=i/\i < 2 ^ 62/\-(2 ^ 62)<=j/\j < 2 ^ 62)/\R (Ep (j - 1) (j - i).toNat) H1:=by
    funext x H1
    simp only [Ei,eq_iff_iff]
    constructor
    ·rintro ⟨x',e,h⟩;cases e;exact h
    ·intro h;exact ⟨x,rfl,h⟩
   exact this ▸ h)
 obtain ⟨x,rfl,a,i,j,e,hq,⟨b1,b2,b3,b4⟩,q⟩:=q1
 subst e
 cases r1 with
 | cons r rr =>
  cases rr
  cases r
  obtain ⟨t,u,v,hr⟩:=(show c6 X.prog X.w H1 s1.heap a (.rng i j) from I1.hok a _ hq)
  refine Le hr b1 b2 b3 b4 ?_
  have hsz:Builtin.Range.rangeSize i j 1=((j - i).toNat:Int):=by rw [rangeSize_one];split <;> omega
  have I2:L2.Inv X pins σ H1 { s1 with heap:=s1.heap.push (k6 (i + (Builtin.Range.rangeSize i j 1 - 1)) (Builtin.Range.rangeSize i j 1)),toks:=s1.toks }:=I1.kept fun b o e=>Heap.get?_push_of_some _ e
  by_cases hij:i < j
  ·have e0:i + (Builtin.Range.rangeSize i j 1 - 1)=j - 1 + ((0:Nat):Int) * -1:=by rw [hsz];omega
   have e1:Builtin.Range.rangeSize i j 1=(((j - i).toNat:Nat):Int) - ((0:Nat):Int):=by rw [hsz];omega
   have hit:IsRangeIter (s1.heap.push (k6 (i + (Builtin.Range.rangeSize i j 1 - 1)) (Builtin.Range.rangeSize i j 1))) s1.heap.objs.size (j - 1 + ((0:Nat):Int) * -1) ((((j - i).toNat:Nat):Int) - ((0:Nat):Int)) (-1):=by
    rw [<- e0,<- e1];exact Heap.get?_push_size _ rfl
   refine wpAny_pyIter_rangeiter (s:={ s1 with heap:=s1.heap.push (k6 (i + (Builtin.Range.rangeSize i j 1 - 1)) (Builtin.Range.rangeSize i j 1)) }) hit ?_
   refine ⟨s1.heap.objs.size,[s1.heap.objs.size],_,_,H1,rfl,I2,Cg s1.heap.objs.size (j - 1) (j - i).toNat,hit,fun b hb=>?_,q⟩
   have e:b=s1.heap.objs.size:=by simpa using hb
   subst e
   exact I1.fpOk (Nat.le_refl _) (I1.hok.fresh (Nat.le_refl _))
  ·have hz:(j - i).toNat=0:=by omega
   have e1:Builtin.Range.rangeSize i j 1=(((j - i).toNat:Nat):Int) - ((0:Nat):Int):=by rw [hsz];omega
   have e0:i + (Builtin.Range.rangeSize i j 1 - 1)=i - 1 + ((0:Nat):Int) * -1:=by rw [hsz,hz];omega
   have hit:IsRangeIter (s1.heap.push (k6 (i + (Builtin.Range.rangeSize i j 1 - 1)) (Builtin.Range.rangeSize i j 1))) s1.heap.objs.size (i - 1 + ((0:Nat):Int) * -1) ((((j - i).toNat:Nat):Int) - ((0:Nat):Int)) (-1):=by
    rw [<- e0,<- e1];exact Heap.get?_push_size _ rfl
   refine wpAny_pyIter_rangeiter (s:={ s1 with heap:=s1.heap.push (k6 (i + (Builtin.Range.rangeSize i j 1 - 1)) (Builtin.Range.rangeSize i j 1)) }) hit ?_
   have T:=Cg (P:=X.prog) (w:=X.w) (K:=X.K) (tg:=tg) s1.heap.objs.size (i - 1) (j - i).toNat
   have T2:Turn X.prog X.w X.K tg (Ep (j - 1) (j - i).toNat) [s1.heap.objs.size] s1.heap.objs.size (fun k h=>IsRangeIter h s1.heap.objs.size (i - 1 + (k:Nat) * -1) (((j - i).toNat:Int) - (k:Nat)) (-1)) :=
    ⟨T.mem,T.obj,T.keep,fun X' h1 h2 h3 h4 k pins s σ H E I hf st hg=>by have:k < (j - i).toNat:=hg;omega,T.done,T.self⟩
   refine ⟨s1.heap.objs.size,[s1.heap.objs.size],_,_,H1,rfl,I2,T2,hit,fun b hb=>?_,q⟩
   have e:b=s1.heap.objs.size:=by simpa using hb
   subst e
   exact I1.fpOk (Nat.le_refl _) (I1.hok.fresh (Nat.le_refl _))
end
theorem x5 {lo:Int} {n i:Nat} {x:U} (h:(cH lo n).reverse[i]?=some x):x=.int (lo + n - 1 - i)/\i < n:=by
 have hi:i < n:=by
  have:=(List.getElem?_eq_some_iff.mp h).1
  simpa [cH] using this
 rw [List.getElem?_reverse (by rw [fJ];exact hi),fJ] at h
 obtain ⟨rfl,_⟩:=jF h
 exact ⟨by congr 1;omega,hi⟩
theorem JY {K:PySem.W.Frag} {lo hi:Int} {n:Nat} {H:Hp} {M:aH} (hn:n=(hi - lo).toNat):Walk K (Ep (hi - 1) n) ⟨none,(cH lo n).reverse⟩ H M:=by
 refine ⟨fun H1 M1 s rm _ i u e=>?_,fun H1 M1 s rm _=>?_⟩
 ·obtain ⟨rfl,hi'⟩:=x5 e
  refine ⟨hi',fun x H2 y=>?_⟩
  obtain ⟨rfl,rfl⟩:=y
  have e:lo + n - 1 - (i:Int)=hi - 1 - i:=by omega
  exact ⟨bA.refl _ _,rm,by rw [e];exact dI⟩
 ·show n<=(cH lo n).reverse.length
  rw [List.length_reverse,fJ];exact Nat.le_refl _
noncomputable def JR (ta:UA):UI:=fun τ M R=>ta τ M fun us M1=>match us with
 | [.int i,.int j]=>(-(2 ^ 62)<=i/\i < 2 ^ 62/\-(2 ^ 62)<=j/\j < 2 ^ 62)/\R ⟨none,(cH i (j - i).toNat).reverse⟩ M1
 | _=>False
noncomputable def Rf (ta:UA):UI:=fun τ M R=>ta τ M fun us M1=>match us with
 | [.int j]=>(-(2 ^ 62)<=j/\j < 2 ^ 62)/\R ⟨none,(cH 0 j.toNat).reverse⟩ M1
 | _=>False
section
variable {D:Dat} {tg a b:Expr} {p p2 pos pos2:Pos} {ta:UA}
theorem HR (hm:D.mg "reversed"=none) (hm2:D.mg "range"=none) (ha:m9 D [a,b] ta) (hg:D.sc.names.lookup ("reversed":Str)=some .globalImplicit:=by rfl) (hg2:D.sc.names.lookup ("range":Str)=some .globalImplicit:=by rfl) (hs:∀ env,starEach [a,b] env=[(false,eval a env),(false,eval b env)]:=by intro _;rfl) (hs2:∀ env,starEach [b] env=[(false,eval b env)]:=by intro _;rfl)
  (hs3:∀ env,starEach [.Call (.Name "range" p2) [a,b] [] pos2] env=[(false,eval (.Call (.Name "range" p2) [a,b] [] pos2) env)]:=by intro _;rfl):rJ D tg (.Call (.Name "reversed" p) [.Call (.Name "range" p2) [a,b] [] pos2] [] pos) (JR ta):=by
 obtain ⟨t,q,s⟩:=ha
 refine ⟨NB (QR t),fun X h=>OY (by show X.env.scope.names.lookup _=_;rw [h.sc];exact hg) (by rw [h.mg];exact hm) (RR (by show X.env.scope.names.lookup _=_;rw [h.sc];exact hg2) (by rw [h.mg];exact hm2) (q X h) (hs _) (hs2 _)) (hs3 _),fun σ τ H M R' rs rm h R c=>?_⟩
 refine s σ τ H M _ rs rm h _ fun us vs M1 H1 s1 rm1 ru h1=>?_
 split at h1
 ·rename_i i j
  obtain ⟨hb,h4⟩:=h1
  obtain ⟨v,z,rfl,a1,b1⟩:=ru.two
  cases a1.int
  cases b1.int
  refine ⟨i,j,rfl,fun r hr=>⟨r,i,j,rfl,c5,hb,?_⟩⟩
  have st:=bA.laid (o:=.rng i j) rm1 hr
  exact c _ _ M1 _ (s1.trans st) (rm1.laid hr) (JY rfl) h4
 ·exact h1.elim
end
end U2
namespace U2
open PySem PySem.Spec PyProof.Rows L2
section
variable {X:Cx}
theorem K3 (hc:X.calm=true):h8 X (.builtin "sum") (fun xs H Q=>∃ (p:Addr) (ns:List Int),xs=[.ref p]/\eT X.K H p (ns.map V.int)/\Q (.int ns.sum) H):=by
 intro pins s σ H xs us Q I r h
 obtain ⟨p,ns,rfl,hq,q⟩:=h
 obtain ⟨u,rfl,rx⟩:=vals1 r
 cases rx
 obtain ⟨its,r',pl,hz⟩:=I.list hq
 have hi:IntsAre its ns:=intsAre_of r'
 obtain ⟨ys,e⟩:=hi.allInts.items
 have hns:ns=ys.toList.map (·.1):=by
  rw [<- hi.numsOf,<- nums_intItems,<- e]
 have hl:=pl.isList
 rw [e] at hl
 subst hns
 refine sum_intListG (I.ok.hd hc) hl fun h' tk t' hk=>?_
 ·refine ⟨.int _,H,I.kept hk,⟨t',?_⟩,q⟩
  rw [preSum_eq,List.take_of_length_le (by simp)]
noncomputable def aJ:List U->aH->UK->Prop:=fun us M Q=>match us with
 | [x]=>match view M x with
  | .lst ws=>∃ ns,intsOf ws=some ns/\Q (.int ns.sum) M
  | _=>False
 | _=>False
theorem QE {D:Dat}:rM D (.builtin "sum") aJ:=⟨⟨_,fun X h=>by
  have:=(K3 (X:=X) h.calm);rw [h.K] at this;exact this,fun xs us H M Q' rm rus h Q c=>by
 unfold aJ at h
 split at h
 ·rename_i x
  obtain ⟨v,rfl,a1⟩:=rus.one
  split at h
  ·rename_i ws e
   obtain ⟨ns,e2,q⟩:=h
   obtain ⟨b,zvs,rfl,s2,r2⟩:=fK rm a1 e
   rw [kZ r2 e2] at s2
   exact ⟨b,ns,rfl,s2,c.here rm dI q⟩
  ·exact h.elim
 ·exact h.elim⟩⟩
end
end U2
namespace L2
open PySem
theorem J2 {q:List Value->Prop} (h:q []) (us:List Value) (e:us.length=0):q us:=by rw [List.length_eq_zero_iff.mp e];exact h
theorem qU {n:Nat} {q:List Value->Prop} (h:∀ x us,us.length=n->q (x :: us)) (us:List Value) (e:us.length=n + 1):q us:=by
 cases us with
 | nil=>cases e
 | cons x r=>exact h x r (Nat.succ.inj e)
noncomputable abbrev Ar:=Value->Value->Value->Option Addr->Value->Value->List Value->Prop
theorem nB {p:Ar} (h:∀ a b c d e g x0,p a b c d e g [x0]) (a b c d e g):∀ us,us.length=1->p a b c d e g us:=qU fun x0=>J2 (h a b c d e g x0)
theorem kP {p:Ar} (h:∀ a b c d e g x0 x1,p a b c d e g [x0,x1]) (a b c d e g):∀ us,us.length=2->p a b c d e g us:=qU fun x0=>qU fun x1=>J2 (h a b c d e g x0 x1)
theorem zG {p:Ar} (h:∀ a b c d e g x0 x1 x2,p a b c d e g [x0,x1,x2]) (a b c d e g):∀ us,us.length=3->p a b c d e g us:=qU fun x0=>qU fun x1=>qU fun x2=>J2 (h a b c d e g x0 x1 x2)
theorem Tt {p:Ar} (h:∀ a b c d e g x0 x1 x2 x3,p a b c d e g [x0,x1,x2,x3]) (a b c d e g):∀ us,us.length=4->p a b c d e g us:=qU fun x0=>qU fun x1=>qU fun x2=>qU fun x3=>J2 (h a b c d e g x0 x1 x2 x3)
theorem SS {p:Ar} (h:∀ a b c d e g x0 x1 x2 x3 x4,p a b c d e g [x0,x1,x2,x3,x4]) (a b c d e g):∀ us,us.length=5->p a b c d e g us:=qU fun x0=>qU fun x1=>qU fun x2=>qU fun x3=>qU fun x4=>J2 (h a b c d e g x0 x1 x2 x3 x4)
end L2
namespace U2
open PySem PySem.Spec PyProof.Rows L2
theorem eC {N P:List Str} {sc:Scope} (a:sc.kind=.function:=by rfl) (b:sc.isCoroutine=false:=by rfl) (c:sc.isGenerator=false:=by rfl) (d:N.Nodup:=by decide +kernel) (e:N.take P.length=P:=by rfl) (f:∀ x∈P,sc.names.lookup x=some .local\/sc.names.lookup x=some .cell:=by decide +kernel) (g:∀ y∈sc.names,y.2≠.free:=by decide +kernel):bC N P sc:=⟨a,b,c,d,e,f,g⟩
theorem nk {xs:List U} {I:Nat->SU->aH->Prop}:∀ i τ M,I i τ M->(Src.mk none xs).ok M:=fun _ _ _ _ _ e=>nomatch e
theorem bF {P:Program} {w:World} {K:PySem.W.Frag} {mg:Str->Option Value} {base:Heap} {x:Str} {st:Stmt} {f:Addr} {fd:FuncData} {N ps:List Str} {k:Nat} {sp:c8} {t:US} (F:cW K x x st f fd) (hm:mg x=some (.ref f)) (S:bC N ps (aT st))
  (bind:∀ (kV doc pm:Value) (an:Option Addr) (cdv ct:Value) (us:List Value),us.length=ps.length->bindArgs (PySem.W.fnOf x x (kY st) (iQ st) (aT st) .none kV doc pm an cdv ct) ⟨us,[]⟩=pure (ps.zip us))
  (h:q8 ⟨P,w,K,mg,base,N,aT st,k,true,.none,""⟩ (iQ st) t)
  (q:∀ us M Q,sp us M Q->us.length=ps.length/\t { nx:=fun _ M'=>kD Q .non M',rt:=kD Q } (iC N us) M):Callee P w K mg base (k + 1) x sp [] :=
 IZ F hm S bind (fun us M Q hs=>(q us M Q hs).1) h (fun us M Q hs=>(q us M Q hs).2)
end U2
namespace K25
open PySem L2 U2
noncomputable def top (i:Nat):Stmt:=PySem.Challenge.pw_rowsmith_k25_how_many_covers.main.body.getD i (.Pass ⟨0,0,0,0⟩)
noncomputable abbrev u5:Stmt:=top 2
theorem Fv:bC ["shape"] ["shape"] (aT u5):=eC
noncomputable abbrev j7:Stmt:=top 3
theorem gW:bC ["shape","found","number","part"] ["shape"] (aT j7):=eC
noncomputable abbrev uH:Stmt:=top 4
theorem oO:bC ["shape","place","here","number"] ["shape","place"] (aT uH):=eC
noncomputable abbrev nF:Stmt:=top 5
theorem AZ:bC ["pattern","tree"] ["pattern","tree"] (aT nF):=eC
noncomputable abbrev wZ:Stmt:=top 6
theorem Hr:bC ["tile"] ["tile"] (aT wZ):=eC
noncomputable abbrev Bw:Stmt:=top 8
theorem Mp:bC ["tree"] ["tree"] (aT Bw):=eC
noncomputable abbrev Ac:Stmt:=top 9
theorem J8:bC ["tree"] ["tree"] (aT Ac):=eC
noncomputable abbrev xR:Stmt:=top 10
theorem Hb:bC ["tree","place"] ["tree","place"] (aT xR):=eC
noncomputable abbrev BA:Stmt:=top 12
theorem D8:bC ["pattern","found"] ["pattern"] (aT BA):=eC
noncomputable abbrev Al:Stmt:=top 14
theorem Ot:bC ["pattern","tree"] ["pattern","tree"] (aT Al):=eC
noncomputable abbrev vJ:Stmt:=top 16
theorem j8:bC ["table","tree","place","here","found","number","tile","spots"] ["table","tree","place"] (aT vJ):=eC
noncomputable abbrev qS:Stmt:=top 17
theorem pI:bC ["table","tree","found","place"] ["table","tree"] (aT qS):=eC
noncomputable abbrev pF:Stmt:=top 19
theorem dO:bC ["table","cls","passes","found","waiting","chain","numbers","classes","number","to","hole"] ["table","cls"] (aT pF):=eC
noncomputable abbrev qQ:Stmt:=top 20
theorem pG:bC ["table","found","cls"] ["table"] (aT qQ):=eC
noncomputable abbrev nI:Stmt:=top 21
theorem dD:bC ["tiles","counts","found","number","cls","price","spots","ways","place","kind"] ["tiles","counts"] (aT nI):=eC
noncomputable abbrev nT:Stmt:=top 22
theorem hG:bC ["laid","chains","counts","place","first","here","cls"] ["laid","chains"] (aT nT):=eC
noncomputable abbrev u6:Stmt:=top 23
theorem Ff:bC ["table","tree","cls"] ["table","tree","cls"] (aT u6):=eC
noncomputable abbrev sW:Stmt:=top 25
theorem qY:bC ["cell","k","one"] ["cell","k"] (aT sW):=eC
noncomputable abbrev tR:Stmt:=top 26
theorem kE:bC ["cell","many","found","left","k"] ["cell","many"] (aT tR):=eC
noncomputable abbrev o8:Stmt:=top 27
theorem Bl:bC ["script","k"] ["script","k"] (aT o8):=eC
noncomputable abbrev sP:Stmt:=top 28
theorem DY:bC ["one"] ["one"] (aT sP):=eC
noncomputable abbrev vC:Stmt:=top 29
theorem yX:bC ["one","letters"] ["one"] (aT vC):=eC
noncomputable abbrev u3:Stmt:=top 30
theorem zH:bC ["one","sorts","room","low"] ["one","sorts","room"] (aT u3):=eC
noncomputable abbrev pD:Stmt:=top 31
theorem eE:bC ["some","sorts","stack","room","one","last","ahead","sign"] ["some","sorts"] (aT pD):=eC
noncomputable abbrev pN:Stmt:=top 32
theorem lU:bC ["pattern","place","found","k","part"] ["pattern","place"] (aT pN):=eC
noncomputable abbrev pT:Stmt:=top 33
theorem sM:bC ["pattern","borne","trees","found","part"] ["pattern","borne","trees"] (aT pT):=eC
noncomputable abbrev sF:Stmt:=top 34
theorem kT:bC ["ends","seed","found","k","place","leaf"] ["ends","seed"] (aT sF):=eC
noncomputable abbrev uG:Stmt:=top 35
theorem yZ:bC ["k","one","letters"] ["k","one"] (aT uG):=eC
noncomputable abbrev vL:Stmt:=top 36
theorem iI:bC ["cell","k","sorts","some","steps","pattern","at","cost"] ["cell","k","sorts"] (aT vL):=eC
noncomputable abbrev sG:Stmt:=top 37
theorem mP:bC ["sort","hole","found"] ["sort"] (aT sG):=eC
noncomputable abbrev tK:Stmt:=top 38
theorem iX:bC ["script","some","many","sorts","tiles"] ["script"] (aT tK):=eC
noncomputable abbrev vT:Stmt:=top 39
theorem zI:bC ["script","used","rest"] ["script","used"] (aT vT):=eC
noncomputable abbrev pR:Stmt:=top 40
theorem EZ:bC ["pattern"] ["pattern"] (aT pR):=eC
noncomputable abbrev uO:Stmt:=top 41
theorem Fi:bC ["pattern"] ["pattern"] (aT uO):=eC
noncomputable abbrev uY:Stmt:=top 42
theorem oH:bC ["tile","stack","asks","taken","ask","item"] ["tile","stack","asks"] (aT uY):=eC
noncomputable abbrev vO:Stmt:=top 43
theorem jH:bC ["pattern","taken","inner","deep","place","end"] ["pattern","taken"] (aT vO):=eC
noncomputable abbrev wK:Stmt:=top 44
theorem eF:bC ["menu","number","seed","stack","most","tile","asks","taken","size","deep","borne","tree","word","item","seen"] ["menu","number","seed","stack","most"] (aT wK):=eC
noncomputable abbrev pH:Stmt:=top 45
theorem tV:bC ["menu","first","seed","stack","most","t"] ["menu","first","seed","stack","most"] (aT pH):=eC
noncomputable abbrev tL:Stmt:=top 46
theorem eP:bC ["tiles","cells","most","stack","menu","cell","some","j","again","number"] ["tiles","cells","most"] (aT tL):=eC
noncomputable abbrev vR:Stmt:=top 47
theorem BU:bC ["pattern","tree","k"] ["pattern","tree"] (aT vR):=eC
noncomputable abbrev qO:Stmt:=top 48
theorem i9:bC ["tree","left","found","place","here","k"] ["tree"] (aT qO):=eC
noncomputable abbrev pW:Stmt:=top 49
theorem oJ:bC ["tiles","seen","tops","many","tile"] ["tiles","seen","tops"] (aT pW):=eC
noncomputable abbrev vK:Stmt:=top 50
theorem iH:bC ["table","place","here","known","tops","sort","tile","many","at","end"] ["table","place","here","known"] (aT vK):=eC
noncomputable abbrev qM:Stmt:=top 51
theorem i8:bC ["table","tree","known","place","here","tops","sort"] ["table","tree"] (aT qM):=eC
noncomputable abbrev sZ:Stmt:=top 52
theorem mU:bC ["table","tree","due","sort","told"] ["table","tree"] (aT sZ):=eC
noncomputable abbrev pO:Stmt:=top 53
theorem lO:bC ["script","table","used","cells","stack","tree","tile","twin","at"] ["script"] (aT pO):=eC
inductive Op where
 | sum | less | by_
noncomputable def Op.word:Op->Str
 | .sum=>"sum" | .less=>"less" | .by_=>"by"
inductive Tr where
 | num (n:Int) | name (x:Str) | turn (a:Tr) | two (o:Op) (a b:Tr)
noncomputable def Tr.toU:Tr->U
 | .num n=>.tup [.str "num",.int n]
 | .name x=>.tup [.str "name",.str x]
 | .turn a=>.tup [.str "turn",a.toU]
 | .two o a b=>.tup [.str o.word,a.toU,b.toU]
noncomputable def Tr.ok:Tr->Prop
 | .num _=>True
 | .name x=>PyData.strOk x=true/\x.length<=100
 | .turn a=>a.ok
 | .two _ a b=>a.ok/\b.ok
noncomputable def Tr.dep:Tr->Nat
 | .num _=>1
 | .name _=>1
 | .turn a=>a.dep + 1
 | .two _ a b=>max a.dep b.dep + 1
inductive Pt where
 | hole (c:Str) | any | fr (l h:Int) | turn (a:Pt) | two (o:Op) (a b:Pt)
noncomputable def Pt.toU:Pt->U
 | .hole c=>.tup [.str "at",.str c]
 | .any=>.tup [.str "any"]
 | .fr l h=>.tup [.str "from",.int l,.int h]
 | .turn a=>.tup [.str "turn",a.toU]
 | .two o a b=>.tup [.str o.word,a.toU,b.toU]
noncomputable def Pt.ok:Pt->Prop
 | .hole c=>PyData.strOk c=true
 | .any=>True
 | .fr l h=>0<=l/\l<=h
 | .turn a=>a.ok
 | .two _ a b=>a.ok/\b.ok
noncomputable def Pt.dep:Pt->Nat
 | .hole _=>1
 | .any=>1
 | .fr _ _=>1
 | .turn a=>a.dep + 1
 | .two _ a b=>max a.dep b.dep + 1
noncomputable def Pt.holes:Pt->Nat
 | .hole _=>1
 | .any=>0
 | .fr _ _=>0
 | .turn a=>a.holes
 | .two _ a b=>a.holes + b.holes
noncomputable def Pt.leafy:Pt->Bool
 | .turn _=>false
 | .two _ _ _=>false
 | _=>true
noncomputable def Pt.ends:Pt->List Pt
 | .turn a=>a.ends
 | .two _ a b=>a.ends++b.ends
 | p=>[p]
noncomputable instance:DecidableEq Op:=fun a b=>by cases a <;> cases b <;> first | exact isTrue rfl | exact isFalse (fun h=>nomatch h)
noncomputable def bP:Pt->Tr->Bool
 | .hole _,_=>true
 | .any,.name _=>true
 | .any,_=>false
 | .fr l h,.num n=>decide (l<=n) && decide (n<=h)
 | .fr _ _,_=>false
 | .turn p,.turn a=>bP p a
 | .turn _,_=>false
 | .two o p q,.two o' a b=>decide (o=o') && (bP p a && bP q b)
 | .two _ _ _,_=>false
theorem Op.word_inj {a b:Op}:a.word=b.word ↔ a=b:=by
 cases a <;> cases b <;> first | exact ⟨fun _=>rfl,fun _=>rfl⟩ | exact ⟨fun h=>absurd h (by decide +kernel),fun h=>nomatch h⟩
noncomputable def jE:List (Str × Fl):=[("turn",.int 1),("sum",.int 2),("less",.int 2),("by",.int 2)]
theorem GV (x y:Str):(x++y).cps.toList=x.cps.toList++y.cps.toList:=by
 show (x.cps++y.cps).toList=_
 simp
theorem nX {α:Type} {l:List α} {i:Int} {c:α} (h:cK l i=some c):c∈l:=by
 unfold cK at h
 cases e:oV l.length i with
 | none=>rw [e] at h;cases h
 | some j=>rw [e] at h;exact List.mem_of_getElem? h
theorem small {n:Nat} (h:n<=100000):n<=sizeLine:=Nat.le_trans h (by decide)
theorem BV {n:Nat} (h:n<=100000):(n<=sizeLine)=True:=eq_true (small h)
theorem Bv {te:UE} {i:Nat} {u:US} {D:pZ} {τ:SU} {M:aH} (v:U) (h:∀ Q:UK,Q v M->te τ M Q) (k:u D (τ.set i (some v)) M):eO (bJ te (hName i)) u D τ M:=h _ k
theorem L9:(Str.ofString "at"=Str.ofString "any")=False:=eq_false (by decide +kernel)
theorem Kq:(Str.ofString "at"=Str.ofString "from")=False:=eq_false (by decide +kernel)
theorem Ks:(Str.ofString "at"=Str.ofString "turn")=False:=eq_false (by decide +kernel)
theorem Mz:(Str.ofString "at"=Str.ofString "num")=False:=eq_false (by decide +kernel)
theorem IX:(Str.ofString "at"=Str.ofString "name")=False:=eq_false (by decide +kernel)
theorem t7:(Str.ofString "any"=Str.ofString "at")=False:=eq_false (by decide +kernel)
theorem Io:(Str.ofString "any"=Str.ofString "from")=False:=eq_false (by decide +kernel)
theorem Il:(Str.ofString "any"=Str.ofString "turn")=False:=eq_false (by decide +kernel)
theorem K2:(Str.ofString "any"=Str.ofString "num")=False:=eq_false (by decide +kernel)
theorem G8:(Str.ofString "any"=Str.ofString "name")=False:=eq_false (by decide +kernel)
theorem rV:(Str.ofString "from"=Str.ofString "at")=False:=eq_false (by decide +kernel)
theorem Iw:(Str.ofString "from"=Str.ofString "any")=False:=eq_false (by decide +kernel)
theorem FC:(Str.ofString "from"=Str.ofString "turn")=False:=eq_false (by decide +kernel)
theorem Hk:(Str.ofString "from"=Str.ofString "num")=False:=eq_false (by decide +kernel)
theorem Fy:(Str.ofString "from"=Str.ofString "name")=False:=eq_false (by decide +kernel)
theorem x6:(Str.ofString "turn"=Str.ofString "at")=False:=eq_false (by decide +kernel)
theorem GQ:(Str.ofString "turn"=Str.ofString "any")=False:=eq_false (by decide +kernel)
theorem E1:(Str.ofString "turn"=Str.ofString "from")=False:=eq_false (by decide +kernel)
theorem Bc:(Str.ofString "turn"=Str.ofString "num")=False:=eq_false (by decide +kernel)
theorem yW:(Str.ofString "turn"=Str.ofString "name")=False:=eq_false (by decide +kernel)
theorem Lx:(Str.ofString "num"=Str.ofString "at")=False:=eq_false (by decide +kernel)
theorem IS:(Str.ofString "num"=Str.ofString "any")=False:=eq_false (by decide +kernel)
theorem Ia:(Str.ofString "num"=Str.ofString "from")=False:=eq_false (by decide +kernel)
theorem He:(Str.ofString "num"=Str.ofString "turn")=False:=eq_false (by decide +kernel)
theorem Hs:(Str.ofString "num"=Str.ofString "name")=False:=eq_false (by decide +kernel)
theorem JH:(Str.ofString "name"=Str.ofString "at")=False:=eq_false (by decide +kernel)
theorem IA:(Str.ofString "name"=Str.ofString "any")=False:=eq_false (by decide +kernel)
theorem Fb:(Str.ofString "name"=Str.ofString "from")=False:=eq_false (by decide +kernel)
theorem FA:(Str.ofString "name"=Str.ofString "turn")=False:=eq_false (by decide +kernel)
theorem Hx:(Str.ofString "name"=Str.ofString "num")=False:=eq_false (by decide +kernel)
theorem EJ (o:Op):(o.word=Str.ofString "at")=False:=eq_false (by cases o <;> decide +kernel)
theorem Oy (o:Op):(o.word=Str.ofString "any")=False:=eq_false (by cases o <;> decide +kernel)
theorem LY (o:Op):(o.word=Str.ofString "from")=False:=eq_false (by cases o <;> decide +kernel)
theorem Lj (o:Op):(o.word=Str.ofString "turn")=False:=eq_false (by cases o <;> decide +kernel)
theorem Gm (o:Op):(o.word=Str.ofString "num")=False:=eq_false (by cases o <;> decide +kernel)
theorem Et (o:Op):(o.word=Str.ofString "name")=False:=eq_false (by cases o <;> decide +kernel)
theorem Qz (o:Op):(Str.ofString "at"=o.word)=False:=eq_false (by cases o <;> decide +kernel)
theorem Oh (o:Op):(Str.ofString "any"=o.word)=False:=eq_false (by cases o <;> decide +kernel)
theorem LG (o:Op):(Str.ofString "from"=o.word)=False:=eq_false (by cases o <;> decide +kernel)
theorem Mu (o:Op):(Str.ofString "turn"=o.word)=False:=eq_false (by cases o <;> decide +kernel)
theorem Pr (o:Op):(Str.ofString "num"=o.word)=False:=eq_false (by cases o <;> decide +kernel)
theorem M8 (o:Op):(Str.ofString "name"=o.word)=False:=eq_false (by cases o <;> decide +kernel)
theorem bY:(Str.ofString "at"=Str.ofString "any")=False/\(Str.ofString "at"=Str.ofString "from")=False/\(Str.ofString "at"=Str.ofString "turn")=False/\(Str.ofString "at"=Str.ofString "num")=False/\(Str.ofString "at"=Str.ofString "name")=False/\(Str.ofString "any"=Str.ofString "at")=False:=⟨L9,Kq,Ks,Mz,IX,t7⟩
theorem bT:(Str.ofString "any"=Str.ofString "from")=False/\(Str.ofString "any"=Str.ofString "turn")=False/\(Str.ofString "any"=Str.ofString "num")=False/\(Str.ofString "any"=Str.ofString "name")=False/\(Str.ofString "from"=Str.ofString "at")=False/\(Str.ofString "from"=Str.ofString "any")=False:=⟨Io,Il,K2,G8,rV,Iw⟩
theorem bZ:(Str.ofString "from"=Str.ofString "turn")=False/\(Str.ofString "from"=Str.ofString "num")=False/\(Str.ofString "from"=Str.ofString "name")=False/\(Str.ofString "turn"=Str.ofString "at")=False/\(Str.ofString "turn"=Str.ofString "any")=False/\(Str.ofString "turn"=Str.ofString "from")=False:=⟨FC,Hk,Fy,x6,GQ,E1⟩
theorem b5:(Str.ofString "turn"=Str.ofString "num")=False/\(Str.ofString "turn"=Str.ofString "name")=False/\(Str.ofString "num"=Str.ofString "at")=False/\(Str.ofString "num"=Str.ofString "any")=False/\(Str.ofString "num"=Str.ofString "from")=False/\(Str.ofString "num"=Str.ofString "turn")=False:=⟨Bc,yW,Lx,IS,Ia,He⟩
theorem bX:(Str.ofString "num"=Str.ofString "name")=False/\(Str.ofString "name"=Str.ofString "at")=False/\(Str.ofString "name"=Str.ofString "any")=False/\(Str.ofString "name"=Str.ofString "from")=False/\(Str.ofString "name"=Str.ofString "turn")=False/\(Str.ofString "name"=Str.ofString "num")=False:=⟨Hs,JH,IA,Fb,FA,Hx⟩
theorem b7:(∀ o:Op,(o.word=Str.ofString "at")=False)/\(∀ o:Op,(o.word=Str.ofString "any")=False)/\(∀ o:Op,(o.word=Str.ofString "from")=False)/\(∀ o:Op,(o.word=Str.ofString "turn")=False)/\(∀ o:Op,(o.word=Str.ofString "num")=False)/\(∀ o:Op,(o.word=Str.ofString "name")=False):=⟨EJ,Oy,LY,Lj,Gm,Et⟩
theorem bU:(∀ o:Op,(Str.ofString "at"=o.word)=False)/\(∀ o:Op,(Str.ofString "any"=o.word)=False)/\(∀ o:Op,(Str.ofString "from"=o.word)=False)/\(∀ o:Op,(Str.ofString "turn"=o.word)=False)/\(∀ o:Op,(Str.ofString "num"=o.word)=False)/\(∀ o:Op,(Str.ofString "name"=o.word)=False):=⟨Qz,Oh,LG,Mu,Pr,M8⟩
section
variable {P:Program} {w:World} {K:PySem.W.Frag} {mg:Str->Option Value} {base:Heap} {f d d2 fl:Addr} {fd:FuncData}
noncomputable def wU:Str:=Str.ofString "abcdefghijklmnopqrstuvwxyz"
theorem len_app (x y:Str):(x++y).length=x.length + y.length:=by
 show (x.cps++y.cps).size=x.cps.size + y.cps.size
 simp
theorem mK {neg:Bool} {i j:Int} {M:aH} {Q:UK}:tI neg (.int i) (.int j) M Q=Q (.bl (if neg then !decide (i=j) else decide (i=j))) M:=rfl
theorem mM {neg:Bool} {i j:Str} {M:aH} {Q:UK}:tI neg (.str i) (.str j) M Q=Q (.bl (if neg then !decide (i=j) else decide (i=j))) M:=rfl
theorem big {k:Nat} (h:k < 100000):k < sizeLine:=Nat.lt_of_lt_of_le h (by decide)
noncomputable def iA:c8:=fun us M Q=>∃ (z:Str) (r:List U) (b:Bool),us=[.tup (.str z :: r)]/\(e8 jE z).isSome=b/\r.length<=1000/\Q (.tup (if b then r else [])) M
local macro_rules | `(tactic| dsimp! only [$xs,*] $[$l]?) => `(tactic| simp only [$xs,*, Bool.false_eq_true, Bool.not_false, Bool.not_true, List.append_nil, List.cons_append, List.getElem?_cons_succ, List.getElem?_cons_zero, List.length_cons, List.length_nil, List.map_cons, List.map_nil, List.nil_append, List.replicate, List.set_cons_succ, List.set_cons_zero, Nat.add_sub_cancel, Nat.reduceAdd, Nat.reduceLeDiff, Nat.reduceSub, Nat.sub_self, Option.getD_some, Option.some.injEq, and_true, zA, Ay, at2, Cf, tM, tJ, mY, mN, mQ, qZ, mW, qV, tG, kK, AH, Am, AJ, BQ, eQ, decide_false, decide_true, mK, mM, exists_eq_left', bM, hName, cB, bV, if_false, if_true, wJ, p5, h7, dP, dQ, dZ, dR, eA, dG, fZ, gA, gT, gC, gY, eW, gB, fY, gK, fR, gP, eX, gU, gJ, iJ, gZ, iL, fS, fT, fX, gM, gD, gN, eV, gS, gQ, iM, gR, iK, fV, e7, eU, fQ, eY, fW, eL, items, rD, jV, o3, jS, qK, aW, jL, gG, aI, reduceCtorEq, iC, BV, true_and, sS, rA, mO, tB, n9, bJ, wF, tH, oS, uC, xO, oB, oR, lR, n8, sA, i5, oD, lV, wV, uI, pK, yU, jI, wG, xW, oI, xU, sQ, tP, qN, wQ, cN, sO, j9, tF, r9, rH, lH, yV, tQ, oM, cT, rL, oK, oN, eO, rS, sL, mV, sI, sX, zP, pA, sH, jM, oZ, lW, oQ, mS, o4, oW] $[$l]?)
theorem E9 (F:cW K "parts_of" "parts_of" u5 f fd) (hm:mg "parts_of"=some (.ref f)) (Bz:AW P w K d jE) (Bp:mg "SIGNS"=some (.ref d)):Callee P w K mg base 1 "parts_of" iA []:=by
 refine bF F hm Fv (nB fun _ _ _ _ _ _ _=>rfl) (aE (aV (Sz (b8 (NU Bz) (aG (uv 0) aF) (Qa Bp)) (lM (own:=false) (uv 0) (jU aF) k0) (aY aB)))) ?_
 rintro us M Q ⟨z,r,b,rfl,hb,hl,q⟩
 refine ⟨rfl,?_⟩
 dsimp! only [hb]
 cases b with
 | true =>
  dsimp! only [xQ]
  exact aS q
 | false =>
  dsimp! only [true_and]
  exact aS q
theorem L6 (F:cW K "parts" "parts" Bw f fd) (hm:mg "parts"=some (.ref f)) (cY:Callee P w K mg base 1 "parts_of" iA []):Callee P w K mg base 2 "parts" iA []:=by
 refine bF F hm Mp (nB fun _ _ _ _ _ _ _=>rfl) (aE (aV (aR cY (aA (uv 0) aB)))) ?_
 rintro us M Q ⟨z,r,b,rfl,hb,hl,q⟩
 refine ⟨rfl,?_⟩
 dsimp! only [true_and]
 exact ⟨z,r,b,rfl,hb,hl,aS q⟩
theorem p9:(e8 jE (Str.ofString "turn")).isSome=true:=by decide +kernel
theorem qD (o:Op):(e8 jE o.word).isSome=true:=by cases o <;> decide +kernel
noncomputable def zU:c8:=fun us M Q=>∃ (p:Pt) (t:Tr),us=[p.toU,t.toU]/\(p=.any\/∃ l h,p=.fr l h)/\Q (.bl (bP p t)) M
theorem aP {u v:US} {D:pZ} {τ:SU} {M:aH} (h:∀ V:SU->aH->Prop,V=v D->u { D with nx:=V } τ M):eO u v D τ M:=h _ rfl
theorem dY {c:UT} {t u:US} {D:pZ} {τ:SU} {M:aH} (h:∀ A B:aH->Prop,A=t D τ->B=u D τ->c τ M fun b M1=>if b=true then A M1 else B M1):jI c t u D τ M:=h _ _ rfl rfl
local macro_rules | `(tactic| simp_all! only [$xs,*]) => `(tactic| simp only [$xs,*, Bool.false_eq_true, Bool.not_false, Bool.not_true, List.append_nil, List.cons_append, List.getElem?_cons_succ, List.getElem?_cons_zero, List.length_cons, List.length_nil, List.map_cons, List.map_nil, List.nil_append, List.replicate, List.set_cons_succ, List.set_cons_zero, Nat.add_sub_cancel, Nat.reduceAdd, Nat.reduceLeDiff, Nat.reduceSub, Nat.sub_self, Option.getD_some, Option.some.injEq, and_true, zA, Ay, at2, Cf, tM, tJ, mY, mN, mQ, qZ, mW, qV, tG, kK, AH, Am, AJ, BQ, eQ, decide_false, decide_true, mK, mM, exists_eq_left', if_false, if_true, wJ, p5, h7, dP, dQ, dZ, dR, eA, dG, fZ, gA, gT, gC, gY, eW, gB, fY, gK, fR, gP, eX, gU, gJ, iJ, gZ, iL, fS, fT, fX, gM, gD, gN, eV, gS, gQ, iM, gR, iK, fV, e7, eU, fQ, eY, fW, eL, items, rD, jV, o3, jS, qK, jL, gG, aI, reduceCtorEq, iC, BV, true_and, sS, rA, mO, tB, n9, wF, tH, uC, xO, oB, oR, lR, n8, oD, lV, wV, uI, pK, yU, wG, xW, oI, xU, sQ, tP, qN, wQ, sO, j9, tF, r9, rH, lH, yV, tQ, oM, oK, oN, rS, sL, mV, sI, sX, zP, pA, sH, jM, oZ, lW, oQ, mS, o4, oW])
theorem Av (F:cW K "lies_on_leaf" "lies_on_leaf" nF f fd) (hm:mg "lies_on_leaf"=some (.ref f)):Callee P w K mg base 1 "lies_on_leaf" zU []:=by
 refine bF F hm AZ (kP fun _ _ _ _ _ _ _ _=>rfl) (aD (b6 (b8 c7 (aG (uv 0) aF) cR)
 (aE (aV (xB c7 (aG (uv 1) aF) cR)))
 bI)
 (aE (aV (IT (xB c7 (aG (uv 1) aF) cR) (DU (Nm HG HG (aG (uv 0) aF) (aG (uv 1) aF) (aG (uv 0) aF))))))) ?_
 rintro us M Q ⟨p,t,rfl,hp,q⟩
 refine ⟨rfl,?_⟩
 refine aP fun V hV=>?_
 refine dY fun A B hA hB=>?_
 rcases hp with rfl | ⟨l,h,rfl⟩
 ·simp_all! only [Pt.toU,bY,bT,bZ,b5,bX,b7,bU,bV,bM,cB,hName,aW]
  subst hA
  cases t <;> (simp only [cT,Pt.toU,Tr.toU,bP,bY,bT,bZ,b5,bX,b7,bU,mK,mM,eQ,bV,bM,cB,tP,wG,items,oD,sH,jS,o3,zA,Ay,at2,Cf,Option.some.injEq,exists_eq_left',true_and,and_true,wF,tH,jV,qK,oR,p5,rD,qV,tG,BQ,AJ,Am,AH,mO,iC,yV,tB,tF,sI,mV,xO,n8,pA,uC,sO,hName,lH,zP,lR,pK,uI,n9,tQ,rH,yU,sX,sQ,jL,oB,mQ,qZ,tM,mY,mN,mW,kK,oQ,jM,oZ,o4,oW,lW,mS,aI,gG,sS,wV,wQ,xW,r9,h7,rA,xU,sL,j9,oM,wJ,oI,oK,oN,List.map_cons,List.map_nil,List.length_cons,List.length_nil,List.cons_append,List.nil_append,List.replicate,List.getElem?_cons_zero,List.getElem?_cons_succ,List.set_cons_zero,List.set_cons_succ,List.append_nil,Nat.reduceAdd,Nat.reduceSub,Nat.sub_self,Nat.add_sub_cancel,Bool.not_false,Bool.not_true,if_true,if_false,Bool.false_eq_true,reduceCtorEq,decide_true,decide_false,dP,dZ,eA,dG,dR,dQ,fZ,gT,gY,eW,gC,gA,gU,iJ,iL,fS,gZ,gJ,gS,iM,iK,fV,gR,gQ,e7,fQ,fW,eL,eY,eU,fT,gM,gN,eV,gD,fX,gB,gK,gP,eX,fR,fY,qN,tJ,aW,rS,lV,BV,Nat.reduceLeDiff,Option.getD_some] at q ⊢;exact aS q)
 ·simp_all! only [Pt.toU,bY,bT,bZ,b5,bX,b7,bU,bV,bM,cB,hName,aW]
  subst hB
  simp only [cN]
  subst hV
  cases t with
  | num n =>
   simp only [cT,Pt.toU,Tr.toU,bP,bY,bT,bZ,b5,bX,b7,bU,mK,mM,eQ,bV,bM,cB,tP,wG,items,oD,sH,jS,o3,zA,Ay,at2,Cf,Option.some.injEq,exists_eq_left',true_and,and_true,wF,tH,jV,qK,oR,p5,rD,qV,tG,BQ,AJ,Am,AH,mO,iC,yV,tB,tF,sI,mV,xO,n8,pA,uC,sO,hName,lH,zP,lR,pK,uI,n9,tQ,rH,yU,sX,sQ,jL,oB,mQ,qZ,tM,mY,mN,mW,kK,oQ,jM,oZ,o4,oW,lW,mS,aI,gG,sS,wV,wQ,xW,r9,h7,rA,xU,sL,j9,oM,wJ,oI,oK,oN,List.map_cons,List.map_nil,List.length_cons,List.length_nil,List.cons_append,List.nil_append,List.replicate,List.getElem?_cons_zero,List.getElem?_cons_succ,List.set_cons_zero,List.set_cons_succ,List.append_nil,Nat.reduceAdd,Nat.reduceSub,Nat.sub_self,Nat.add_sub_cancel,Bool.not_false,Bool.not_true,if_true,if_false,Bool.false_eq_true,reduceCtorEq,decide_true,decide_false,dP,dZ,eA,dG,dR,dQ,fZ,gT,gY,eW,gC,gA,gU,iJ,iL,fS,gZ,gJ,gS,iM,iK,fV,gR,gQ,e7,fQ,fW,eL,eY,eU,fT,gM,gN,eV,gD,fX,gB,gK,gP,eX,fR,fY,qN,tJ,aW,rS,lV,BV,Nat.reduceLeDiff,Option.getD_some] at q ⊢
   by_cases h1:l<=n
   ·rw [if_pos (decide_eq_true h1)]
    rw [decide_eq_true h1,Bool.true_and] at q
    exact aS q
   ·rw [if_neg (by simpa using h1)]
    rw [decide_eq_false h1,Bool.false_and] at q
    exact aS q
  | _=>simp only [cT,Pt.toU,Tr.toU,bP,bY,bT,bZ,b5,bX,b7,bU,mK,mM,eQ,bV,bM,cB,tP,wG,items,oD,sH,jS,o3,zA,Ay,at2,Cf,Option.some.injEq,exists_eq_left',true_and,and_true,wF,tH,jV,qK,oR,p5,rD,qV,tG,BQ,AJ,Am,AH,mO,iC,yV,tB,tF,sI,mV,xO,n8,pA,uC,sO,hName,lH,zP,lR,pK,uI,n9,tQ,rH,yU,sX,sQ,jL,oB,mQ,qZ,tM,mY,mN,mW,kK,oQ,jM,oZ,o4,oW,lW,mS,aI,gG,sS,wV,wQ,xW,r9,h7,rA,xU,sL,j9,oM,wJ,oI,oK,oN,List.map_cons,List.map_nil,List.length_cons,List.length_nil,List.cons_append,List.nil_append,List.replicate,List.getElem?_cons_zero,List.getElem?_cons_succ,List.set_cons_zero,List.set_cons_succ,List.append_nil,Nat.reduceAdd,Nat.reduceSub,Nat.sub_self,Nat.add_sub_cancel,Bool.not_false,Bool.not_true,if_true,if_false,Bool.false_eq_true,reduceCtorEq,decide_true,decide_false,dP,dZ,eA,dG,dR,dQ,fZ,gT,gY,eW,gC,gA,gU,iJ,iL,fS,gZ,gJ,gS,iM,iK,fV,gR,gQ,e7,fQ,fW,eL,eY,eU,fT,gM,gN,eV,gD,fX,gB,gK,gP,eX,fR,fY,qN,tJ,aW,rS,lV,BV,Nat.reduceLeDiff,Option.getD_some] at q ⊢;exact aS q
theorem pX (z:Str):([U.str (Str.ofString "any"),U.str (Str.ofString "from")].any fun u=>zO u (.str z))=(decide (Str.ofString "any"=z) || decide (Str.ofString "from"=z)):=by
 have e:∀ a:Str,zO (.str a) (.str z)=decide (a=z):=fun a=>by
  show (a == z)=_
  by_cases h:a=z
  ·subst h;simp
  ·simp [h]
 simp only [List.any_cons,List.any_nil,e,Bool.or_false]
noncomputable def lT (n:Nat):c8:=fun us M Q=>∃ (p:Pt) (t:Tr),us=[p.toU,t.toU]/\p.dep<=n/\Q (.bl (bP p t)) M
theorem N7 {n:Nat} (F:cW K "lies" "lies" Al f fd) (hm:mg "lies"=some (.ref f)) (yH:mg "all"=none) (pL:mg "zip"=none) (k5:Callee P w K mg base 1 "lies_on_leaf" zU []) (cY:Callee P w K mg base 1 "parts_of" iA []) (yD:Callee P w K mg base 2 "parts" iA [])
  (Dd:Callee P w K mg base (n + 3) "lies" (lT n) []):Callee P w K mg base (n + 4) "lies" (lT (n + 1)) []:=by
 refine bF F hm Ot (kP fun _ _ _ _ _ _ _ _=>rfl) (aD (b6 (b8 c7 (aG (uv 0) aF) cR)
 (aE (aV m8))
 bI)
 (aD (b6 (b8 MY (aG (uv 0) aF) (aY (aA cR (aA cR aB))))
 (aE (aV (aR k5 (aA (uv 0) (aA (uv 1) aB)))))
 bI)
 (aD (b6 (b8 pY (aG (uv 0) aF) (aG (uv 1) aF))
 (aE (aV m8))
 bI)
 (aE (aV (dA Si yH (aA (jR false ["inner","part"] 2 [] (Rp pL (aA (aR cY (aA (uv 0) aB)) (aA (aR yD (aA (uv 1) aB)) aB))) (eJ (n:=2) (bB (aN (k:=2) 0 (by dsimp only [cJ];decide +kernel)) (bB (aN (k:=2) 1 (by dsimp only [cJ];decide +kernel)) dH))) iS (aR Dd (aA (uv 0) (aA (uv 1) aB)))) aB))))))) ?_
 rintro us M Q ⟨p,t,rfl,hd,q⟩
 refine ⟨rfl,?_⟩
 have fl:∀ z:Str,jN (.str z)=true:=fun _=>rfl
 have fl2:[U.str (Str.ofString "any"),U.str (Str.ofString "from")].all jN=true:=rfl
 refine aP fun V hV=>?_
 have g1:(∀ c,p≠.hole c)->V [some p.toU,some t.toU] M:=fun p1=>by
  subst hV
  refine aP fun V hV=>?_
  have g2:p≠.any->(∀ l h,p≠.fr l h)->V [some p.toU,some t.toU] M:=fun p2 p3=>by
   subst hV
   refine aP fun V hV=>?_
   refine dY fun A B hA hB=>?_
   have hno:bP p t=false->A M:=fun h=>by subst hA;simp only [cT,uC];rw [h] at q;exact aS q
   cases p with
   | hole c=>exact absurd rfl (p1 c)
   | any=>exact absurd rfl p2
   | fr l h=>exact absurd rfl (p3 l h)
   | turn a =>
    have hda:a.dep<=n:=by simp only [Pt.dep] at hd;omega
    cases t with
    | turn b =>
     simp_all! only [Pt.toU,bY,bT,bZ,b5,bX,b7,bU,bV,bM,cB,hName,aW,Tr.toU]
     subst hB
     subst hV
     simp only [cN]
     dsimp! only [Pt.toU,Tr.toU,bP,bY,bT,bZ,b5,bX,b7,bU,pX,fl,fl2,Bool.or_false] at q ⊢
     refine eI (S:=⟨none,eZ [a.toU] [b.toU]⟩) (M1:=M) [.bl (bP a b)] (fun R r=>?_) rfl (show 1<=sizeLine by decide) (fun a e=>by cases e) ?_ ?_
     ·dsimp! only [true_and]
      refine ⟨_,_,true,rfl,p9,by simp,⟨_,_,true,rfl,p9,by simp,?_⟩⟩
      dsimp! only [true_and]
      exact r
     ·intro j x y hx hy M' _ R r'
      match j,hx,hy with
      | 0,hx,hy =>
       cases hx;cases hy
       dsimp! only [true_and]
       exact ⟨a,b,rfl,hda,r'⟩
      | j + 1,hx,hy=>cases hy
     ·dsimp! only [zR,Option.map_some,List.all_cons,List.all_nil,Bool.and_true]
      exact aS q
    | _=>simp_all! only [Pt.toU,bY,bT,bZ,b5,bX,b7,bU,bV,bM,cB,hName,aW,Tr.toU];exact hno rfl
   | two o a c =>
    have hda:a.dep<=n/\c.dep<=n:=by simp only [Pt.dep] at hd;omega
    cases t with
    | two o' b e =>
     by_cases ho:o=o'
     ·subst ho
      simp_all! only [Pt.toU,bY,bT,bZ,b5,bX,b7,bU,bV,bM,cB,hName,aW,Tr.toU]
      subst hB
      subst hV
      simp only [cN]
      dsimp! only [Pt.toU,Tr.toU,bP,bY,bT,bZ,b5,bX,b7,bU,pX,fl,fl2,Bool.or_false,Op.word_inj] at q ⊢
      dsimp! only [Bool.true_and] at q ⊢
      refine eI (S:=⟨none,eZ [a.toU,c.toU] [b.toU,e.toU]⟩) (M1:=M) [.bl (bP a b),.bl (bP c e)] (fun R r=>?_) rfl (show 2<=sizeLine by decide) (fun a e=>by cases e) ?_ ?_
      ·dsimp! only [true_and]
       refine ⟨_,_,true,rfl,qD o,by simp,⟨_,_,true,rfl,qD o,by simp,?_⟩⟩
       dsimp! only [true_and]
       exact r
      ·intro j x y hx hy M' _ R r'
       match j,hx,hy with
       | 0,hx,hy =>
        cases hx;cases hy
        dsimp! only [true_and]
        exact ⟨a,b,rfl,hda.1,r'⟩
       | 1,hx,hy =>
        cases hx;cases hy
        dsimp! only [true_and]
        exact ⟨c,e,rfl,hda.2,r'⟩
       | j + 2,hx,hy=>cases hy
      ·dsimp! only [zR,Option.map_some,List.all_cons,List.all_nil,Bool.and_true]
       exact aS q
     ·simp_all! only [Op.word_inj,ho,Pt.toU,bY,bT,bZ,b5,bX,b7,bU,bV,bM,cB,hName,aW,Tr.toU]
      exact hno (by simp [bP,ho])
    | _=>simp_all! only [Pt.toU,bY,bT,bZ,b5,bX,b7,bU,bV,bM,cB,hName,aW,Tr.toU];exact hno rfl
  refine dY fun A B hA hB=>?_
  have hyes:p≠.any->(∀ l h,p≠.fr l h)->B M:=fun h h'=>by subst hB;simp only [cN];exact g2 h h'
  cases p with
  | hole c=>exact absurd rfl (p1 c)
  | any =>
   simp_all! only [pX,fl,fl2,Bool.or_false,Bool.or_true,Bool.true_or,Pt.toU,bY,bT,bZ,b5,bX,b7,bU,bV,bM,cB,hName,aW]
   subst hA
   simp_all! only [cT,Pt.toU,bY,bT,bZ,b5,bX,b7,bU,bV,bM,cB,hName,aW]
   exact ⟨.any,t,rfl,.inl rfl,aS q⟩
  | fr l h =>
   simp_all! only [pX,fl,fl2,Bool.or_false,Bool.or_true,Bool.true_or,Pt.toU,bY,bT,bZ,b5,bX,b7,bU,bV,bM,cB,hName,aW]
   subst hA
   simp_all! only [cT,Pt.toU,bY,bT,bZ,b5,bX,b7,bU,bV,bM,cB,hName,aW]
   exact ⟨.fr l h,t,rfl,.inr ⟨l,h,rfl⟩,aS q⟩
  | _=>simp_all! only [pX,fl,fl2,Bool.or_false,Pt.toU,bY,bT,bZ,b5,bX,b7,bU,bV,bM,cB,hName,aW];exact hyes (fun z=>by cases z) (fun l h z=>by cases z)
 refine dY fun A B hA hB=>?_
 have hyes:(∀ c,p≠.hole c)->B M:=fun h=>by subst hB;simp only [cN];exact g1 h
 cases p with
 | hole c =>
  simp_all! only [Pt.toU,bY,bT,bZ,b5,bX,b7,bU,bV,bM,cB,hName,aW]
  subst hA
  simp only [cT,uC,bP] at q ⊢
  exact aS q
 | _=>simp_all! only [Pt.toU,bY,bT,bZ,b5,bX,b7,bU,bV,bM,cB,hName,aW];exact hyes (fun c z=>by cases z)
theorem nY:∀ p:Pt,1<=p.dep
 | .hole _=>Nat.le_refl _
 | .any=>Nat.le_refl _
 | .fr _ _=>Nat.le_refl _
 | .turn a=>by simp only [Pt.dep];omega
 | .two o a b=>by simp only [Pt.dep];omega
theorem MR:∀ p:Tr,1<=p.dep
 | .num _=>Nat.le_refl _
 | .name _=>Nat.le_refl _
 | .turn a=>by simp only [Tr.dep];omega
 | .two o a b=>by simp only [Tr.dep];omega
theorem Dv (F:cW K "lies" "lies" Al f fd) (hm:mg "lies"=some (.ref f)) (yH:mg "all"=none) (pL:mg "zip"=none) (k5:Callee P w K mg base 1 "lies_on_leaf" zU []) (cY:Callee P w K mg base 1 "parts_of" iA []) (yD:Callee P w K mg base 2 "parts" iA []):∀ n,Callee P w K mg base (n + 3) "lies" (lT n) []
 | 0=>by
  have no:∀ us M Q,¬ lT 0 us M Q:=fun us M Q h=>by
   obtain ⟨p,t,_,h,_⟩:=h
   have:=nY p
   omega
  refine ⟨f,fd,["pattern","tree"],[],[],⟨fun vs H Q E h=>?_,fun A outer s H args us vs Q E _ _ _ _ h=>?_⟩,hm,F.kp,F.binds (kP fun _ _ _ _ _ _ _ _=>rfl),.nil,fun H M=>.nil⟩
  ·obtain ⟨us,M,Q',_,_,h,_⟩:=h;exact absurd h (no us M Q')
  ·obtain ⟨us,M,Q',_,_,h,_⟩:=h;exact absurd h (no us M Q')
 | n + 1=>N7 F hm yH pL k5 cY yD (Dv F hm yH pL k5 cY yD n)
theorem mulL {i j:Int} (h1:-(2 ^ 64) < i) (h2:i < 2 ^ 64):oF i j:=.inl (.inl ⟨h1,h2⟩)
theorem mulR {i j:Int} (h1:-(2 ^ 64) < j) (h2:j < 2 ^ 64):oF i j:=.inl (.inr ⟨h1,h2⟩)
noncomputable def BN:c8:=fun us M Q=>∃ c k:Int,us=[.int c,.int k]/\0<=k/\k<=1000/\∀ n:Int,0<=n->Q (.int n) M
theorem LN (F:cW K "_law_mixed" "_law_mixed" sW f fd) (hm:mg "_law_mixed"=some (.ref f)):Callee P w K mg base 1 "_law_mixed" BN []:=by
 refine bF F hm qY (kP fun _ _ _ _ _ _ _ _=>rfl) (aD (aO 2 qY.nd (bO (gH (own:=false) (bL (own:=false) (bL (own:=false) (bO (uv 0) aF) (gH (own:=false) aF (uv 1))) aF) aF) aF))
 (aD (aO 2 qY.nd (bO (gH (own:=false) (uv 2) (uv 2)) aF))
 (aE (aV (dU (bO (gH (own:=false) (bL (own:=false) (uv 2) (gH (own:=false) aF (bL (own:=false) (uv 1) aF))) aF) aF) aF))))) ?_
 rintro us M Q ⟨c,k,rfl,h1,h2,q⟩
 refine ⟨rfl,?_⟩
 dsimp! only [true_and]
 have a1:=Int.emod_nonneg c (show (1000000007:Int)≠0 by decide)
 have a2:=Int.emod_lt_of_pos c (show (0:Int) < 1000000007 by decide)
 generalize c % 1000000007=x at a1 a2
 generalize hy:(x + 7919 * k + 1) * 48271 % 2147483647=y
 have b1:0<=y:=by rw [<- hy];exact Int.emod_nonneg _ (by decide)
 have b2:y < 2147483647:=by rw [<- hy];exact Int.emod_lt_of_pos _ (by decide)
 generalize hz:y * y % 998244353=z
 have c1:0<=z:=by rw [<- hz];exact Int.emod_nonneg _ (by decide)
 have c2:z < 998244353:=by rw [<- hz];exact Int.emod_lt_of_pos _ (by decide)
 refine ⟨by decide,mulL (by decide) (by decide),mulR (by decide) (by decide),by decide,mulL (by omega) (by omega),by decide,mulL (by decide) (by decide),mulR (by decide) (by decide),by decide,⟨by decide,by decide⟩,aS (q _ ?_)⟩
 exact Int.ediv_nonneg (Int.emod_nonneg _ (by decide)) (by decide)
noncomputable def yR:c8:=fun us M Q=>∃ (c:Int) (m:Nat),us=[.int c,.int (m:Int)]/\m<=100/\∀ l:List Int,l.length=m->(∀ x∈l,0<=x)->Q (.lst (l.map .int)) M
theorem QW (c:Int):0<=(if c < 0 then -c else c):=by split <;> omega
theorem Lw (F:cW K "_law_draws" "_law_draws" tR f fd) (hm:mg "_law_draws"=some (.ref f)) (CZ:mg "abs"=none) (dB:mg "range"=none) (oA:Callee P w K mg base 1 "_law_mixed" BN []):Callee P w K mg base 2 "_law_draws" yR []:=by
 refine bF F hm kE (kP fun _ _ _ _ _ _ _ _=>rfl) (aD (aO 2 kE.nd (cX (own:=true) aB))
 (aD (aO 3 kE.nd (dA NK CZ (aA (uv 0) aB)))
 (aD (cS (qC dB (aA (uv 1) aB)) (aN (k:=1000) 4 kE.nd)
 (aE (b6 (m7.pt (kM (b8 S7 (dA NK CZ (aA (uv 0) aB)) (AY aF aF)) (mJ (b8 xP (uv 3) aF))))
 (aD (e6 (eM (uv 2) (aA (bO (uv 3) aF) aB)))
 (aE (aO 3 kE.nd (dU (uv 3) aF))))
 (aE (e6 (eM (uv 2) (aA (aR oA (aA (uv 0) (aA (uv 4) aB))) aB)))))))
 (aE (aV (uv 2)))))) ?_
 rintro us M Q ⟨c,m,rfl,hm,q⟩
 refine ⟨rfl,?_⟩
 dsimp! only [true_and]
 intro p hp
 refine cP (S:=⟨none,cH 0 m⟩) (M1:=mup M p (.lst [])) (fun R r=>?_)
  (fun i τ Mi=>∃ (l:List Int) (lf:Int) (k:Option U),τ=[some (.int c),some (.int (m:Int)),some (.ref p),some (.int lf),k]/\Mi=mup M p (.lst (l.map .int))/\l.length=i/\(∀ x∈l,0<=x)/\0<=lf) ⟨[],_,none,rfl,rfl,rfl,(fun x h=>by cases h),QW c⟩ nk ?_ ?_
 ·dsimp! only [true_and]
  exact ⟨by omega,by omega,by rw [show ((m:Int)).toNat=m by omega];exact r⟩
 ·rintro i x τ Mi e ⟨l,lf,k,rfl,rfl,hl,hx,hlf⟩
  obtain ⟨rfl,hi⟩:=jF e
  have add:∀ n:Int,0<=n->∀ y∈l++[n],0<=y:=fun n hn y hy=>by
   rcases List.mem_append.mp hy with hy | hy
   ·exact hx y hy
   ·cases List.mem_singleton.mp hy;exact hn
  dsimp! only [true_and]
  have pw:D6 10 18:=⟨by decide,by decide,by decide⟩
  refine ⟨pw,gX (fun _=>gX (fun _=>?_) (fun _=>?_)) (fun _=>?_)⟩
  ·refine ⟨eN,by decide,big (by simp;omega),⟨by decide,by decide⟩,l++[lf % 1000003],_,_,rfl,by simp,by simp;omega,add _ (Int.emod_nonneg _ (by decide)),Int.ediv_nonneg hlf (by decide)⟩
  all_goals
   refine ⟨eN,c,_,rfl,by omega,by omega,fun n hn=>?_⟩
   dsimp! only [true_and]
   exact ⟨big (by simp;omega),l++[n],_,_,rfl,by simp,by simp;omega,add n hn,hlf⟩
 ·rintro τ Mi ⟨l,lf,k,rfl,rfl,hl,hx,hlf⟩
  have hl2:(Src.mk none (cH 0 m)).xs.length=m:=fJ _ _
  rw [hl2] at hl
  dsimp! only [true_and]
  exact ⟨_,M,(Sub.refl M).mup hp,.inr ⟨p,_,rfl,aI,hp,rfl⟩,q l hl hx⟩
noncomputable def tS:c8:=fun us M Q=>∃ c:Int,us=[.int c]/\∀ n:Int,0<=n->n<=10 ^ 18->Q (.int n) M
theorem Mt (F:cW K "_law_great" "_law_great" sP f fd) (hm:mg "_law_great"=some (.ref f)):Callee P w K mg base 1 "_law_great" tS []:=by
 refine bF F hm DY (nB fun _ _ _ _ _ _ _=>rfl) (aD (b6 (b8 c7 (bO (uv 0) aF) aF)
 (aE (aV (bO (dU (uv 0) aF) aF)))
 bI)
 (aD (b6 (b8 c7 (bO (uv 0) aF) aF)
 (aE (aV (oT (AY aF aF) (bO (dU (uv 0) aF) aF))))
 bI)
 (aE (aV (bO (gH (own:=false) (gH (own:=false) (dU (uv 0) aF) aF) aF) (bL (own:=false) (AY aF aF) aF)))))) ?_
 rintro us M Q ⟨c,rfl,q⟩
 refine ⟨rfl,?_⟩
 dsimp! only [true_and]
 have pw:D6 10 18:=⟨by decide,by decide,by decide⟩
 refine ⟨by decide,gX (fun _=>?_) (fun _=>⟨by decide,gX (fun _=>?_) (fun _=>?_)⟩)⟩
 ·have h1:=Int.emod_nonneg (c / 4) (show (12:Int)≠0 by decide)
  have h2:=Int.emod_lt_of_pos (c / 4) (show (0:Int) < 12 by decide)
  exact ⟨⟨by decide,by decide⟩,by decide,aS (q _ h1 (by omega))⟩
 ·have h1:=Int.emod_nonneg (c / 4) (show (5:Int)≠0 by decide)
  have h2:=Int.emod_lt_of_pos (c / 4) (show (0:Int) < 5 by decide)
  refine ⟨pw,⟨by decide,by decide⟩,by decide,aS (q _ ?_ ?_)⟩
  ·show (0:Int)<=10 ^ 18 - c / 4 % 5;omega
  ·show (10:Int) ^ 18 - c / 4 % 5<=10 ^ 18;omega
 ·refine ⟨⟨by decide,by decide⟩,mulR (by decide) (by decide),mulR (by decide) (by decide),pw,by decide,aS (q _ (Int.emod_nonneg _ (by decide)) ?_)⟩
  have:=Int.emod_lt_of_pos (c / 4 * 998244353 * 1000003) (show (0:Int) < 10 ^ 18 + 1 by decide)
  show c / 4 * 998244353 * 1000003 % (10 ^ 18 + 1)<=10 ^ 18
  omega
theorem xK {x y:Str} (h:PyData.strOk x=true) (k:PyData.strOk y=true):PyData.strOk (x++y)=true:=by
 unfold PyData.strOk at *
 rw [<- Array.all_toList] at *
 rw [GV,List.all_append,h,k];rfl
theorem BX {z:Str} (h:PyData.strOk z=true) (n:Int):PyData.strOk (sJ z n)=true:=by
 unfold sJ
 split
 ·decide +kernel
 ·split
  ·exact h
  ·have key:∀ (k:Nat) (acc:Array Nat),acc.all (· < 0x110000)=true->((List.replicate k z.cps).foldl (·++·) acc).all (· < 0x110000)=true:=by
    intro k
    induction k with
    | zero=>intro acc ha;simpa using ha
    | succ k ih =>
     intro acc ha
     rw [List.replicate_succ,List.foldl_cons]
     refine ih _ ?_
     have h':z.cps.all (· < 0x110000)=true:=h
     rw [<- Array.all_toList] at *
     rw [Array.toList_append,List.all_append,ha,h'];rfl
   exact key _ _ (by simp)
theorem Gp (z:Str) (n:Int):(sJ z n).length<=z.length * n.toNat:=by
 unfold sJ
 split
 ·exact Nat.zero_le _
 ·rename_i h1
  split
  ·rename_i h
   have hn:1<=n.toNat:=by omega
   exact Nat.le_mul_of_pos_right _ hn
  ·have hsz:∀ (k:Nat) (acc:Array Nat),((List.replicate k z.cps).foldl (·++·) acc).size=acc.size + k * z.cps.size:=by
    intro k
    induction k with
    | zero=>intro acc;simp
    | succ k ih=>intro acc;rw [List.replicate_succ,List.foldl_cons,ih,Array.size_append,Nat.succ_mul];omega
   show ((List.replicate n.toNat z.cps).foldl (·++·) #[]).size<=_
   rw [hsz]
   simp only [Array.size_empty,Nat.zero_add]
   rw [Nat.mul_comm];exact Nat.le_refl _
theorem yC {z:Str} {i:Int} {c:Nat} (hz:PyData.strOk z=true) (h:cK z.cps.toList i=some c):PyData.strOk ⟨#[c]⟩=true:=by
 unfold PyData.strOk at *
 rw [<- Array.all_toList,List.all_eq_true] at *
 intro x hx
 simp only [List.mem_cons,List.not_mem_nil,or_false] at hx
 subst hx
 exact hz _ (nX h)
noncomputable def K9:c8:=fun us M Q=>∃ c:Int,us=[.int c]/\∀ z:Str,PyData.strOk z=true->z.length<=8->Q (.str z) M
theorem OP (F:cW K "_law_name" "_law_name" vC f fd) (hm:mg "_law_name"=some (.ref f)):Callee P w K mg base 1 "_law_name" K9 []:=by
 refine bF F hm yX (nB fun _ _ _ _ _ _ _=>rfl) (aD (aO 1 yX.nd cR)
 (aD (b6 (b8 c7 (bO (uv 0) aF) aF)
 (aE (aV (aG cR (bO (dU (uv 0) aF) aF))))
 bI)
 (aE (aV (bL (own:=false) (aG (uv 1) (bO (dU (uv 0) aF) aF)) (gH (own:=false) (aG (uv 1) (bO (dU (uv 0) aF) aF)) (bO (dU (uv 0) aF) aF))))))) ?_
 rintro us M Q ⟨c,rfl,q⟩
 refine ⟨rfl,?_⟩
 have hL:wU.cps.toList.length=26:=by decide +kernel
 have hL2:(wU.length<=sizeLine):=by decide +kernel
 have hA:PyData.strOk wU=true:=by decide +kernel
 have hX:(Str.ofString "xyxz").cps.toList.length=4:=by decide +kernel
 have hX2:((Str.ofString "xyxz").length<=sizeLine):=by decide +kernel
 have hXA:PyData.strOk (Str.ofString "xyxz")=true:=by decide +kernel
 have lt:∀ m:Int,∃ c,cK wU.cps.toList (m % 26)=some c:=fun m=>kS wU.cps.toList (m % 26) (Int.emod_nonneg _ (by decide)) (by rw [hL];exact Int.emod_lt_of_pos _ (by decide))
 dsimp! only [true_and]
 refine ⟨by decide,gX (fun _=>?_) (fun _=>?_)⟩
 ·obtain ⟨x,hx⟩:=kS (Str.ofString "xyxz").cps.toList (c / 3 % 4) (Int.emod_nonneg _ (by decide)) (by rw [hX];exact Int.emod_lt_of_pos _ (by decide))
  exact ⟨⟨by decide,by decide⟩,by decide,hX2,x,hx,aS (q _ (yC hXA hx) (by show 1<=8;decide))⟩
 ·obtain ⟨x,hx⟩:=lt (c / 3)
  obtain ⟨y,hy⟩:=lt (c / 78)
  have n0:=Int.emod_nonneg (c / 2028) (show (8:Int)≠0 by decide)
  have n1:=Int.emod_lt_of_pos (c / 2028) (show (0:Int) < 8 by decide)
  have l1:(⟨#[x]⟩:Str).length=1:=rfl
  have l2:(⟨#[y]⟩:Str).length=1:=rfl
  have l3:=Gp ⟨#[y]⟩ (c / 2028 % 8)
  rw [l2] at l3
  refine ⟨⟨by decide,by decide⟩,by decide,hL2,x,hx,⟨by decide,by decide⟩,by decide,hL2,y,hy,⟨by decide,by decide⟩,by decide,by omega,by omega,by rw [l2];decide,by rw [l2];omega,small (by rw [l1];omega),aS (q _ (xK (yC hA hx) (BX (yC hA hy) _)) ?_)⟩
  rw [len_app,l1];omega
noncomputable def iV (l:List Str):U:=.tup (l.map .str)
noncomputable def Pt.okS (ss:List Str):Pt->Prop
 | .hole c=>c∈ss
 | .any=>True
 | .fr l h=>0<=l/\l<=h
 | .turn a=>a.okS ss
 | .two _ a b=>a.okS ss/\b.okS ss
theorem Pt.okS.ok {ss:List Str} (hs:∀ s∈ss,PyData.strOk s=true):∀ {p:Pt},p.okS ss->p.ok
 | .hole c,h=>hs c h
 | .any,h=>trivial
 | .fr _ _,h=>h
 | .turn a,h=>Pt.okS.ok hs (p:=a) h
 | .two _ a b,h=>⟨Pt.okS.ok hs (p:=a) h.1,Pt.okS.ok hs (p:=b) h.2⟩
noncomputable def Kz:c8:=fun us M Q=>∃ (c:Int) (ss:List Str) (room:Int),us=[.int c,iV ss,.int room]/\ss≠[]/\(∀ s∈ss,PyData.strOk s=true)/\∀ p:Pt,p.okS ss->p.leafy=true->(p.holes=1->0 < room)->Q p.toU M
theorem Pw (F:cW K "_law_leaf" "_law_leaf" u3 f fd) (hm:mg "_law_leaf"=some (.ref f)) (bK:mg "len"=none) (mZ:mg "max"=none) (oG:Callee P w K mg base 1 "_law_great" tS []):Callee P w K mg base 2 "_law_leaf" Kz []:=by
 refine bF F hm zH (zG fun _ _ _ _ _ _ _ _ _=>rfl) (aD (b6 (m7.pt (kM (b8 xP (uv 2) aF) (mJ (b8 Aq (bO (uv 0) aF) aF))))
 (aE (aV (aY (aA cR (aA (aG (uv 1) (bO (dU (uv 0) aF) (dA dW bK (aA (uv 1) aB)))) aB)))))
 bI)
 (aD (b6 (b8 c7 (bO (uv 0) aF) aF)
 (aE (aV (aY (aA cR aB))))
 bI)
 (aD (aO 3 zH.nd (aR oG (aA (dU (uv 0) aF) aB)))
 (aE (aV (aY (aA cR (aA (uv 3) (aA (dA wR mZ (aA (uv 3) (aA (aR oG (aA (dU (uv 0) aF) aB)) aB))) aB))))))))) ?_
 rintro us M Q ⟨c,ss,room,rfl,hne,hs,q⟩
 refine ⟨rfl,?_⟩
 have hl:0 < (ss.length:Int):=by have:=List.length_pos_iff.mpr hne;omega
 obtain ⟨s,hat⟩:=kS ss (c / 5 % (ss.length:Int)) (Int.emod_nonneg _ (by omega)) (Int.emod_lt_of_pos _ hl)
 have hat2:cK (ss.map U.str) (c / 5 % (ss.length:Int))=some (.str s):=by
  unfold cK at hat ⊢
  rw [List.length_map]
  cases e:oV ss.length (c / 5 % (ss.length:Int)) with
  | none=>rw [e] at hat;cases hat
  | some j =>
   rw [e] at hat
   have hat':ss[j]?=some s:=hat
   show (ss.map U.str)[j]?=_
   rw [List.getElem?_map,hat'];rfl
 have fin:(0:Int) < 5/\if decide (c % 5=3)=true then kD Q (U.tup [U.str (Str.ofString "any")]) M else C4 c 5/\tS [U.int (c / 5)] M fun x M1=>C4 c 7/\tS [U.int (c / 7)] M1 fun x_1 M1=>qV [x,x_1] M1 fun x_2 M1=>kD Q (U.tup [U.str (Str.ofString "from"),x,x_2]) M1:=by
  refine ⟨by decide,gX (fun _=>aS (q .any trivial rfl (fun z=>by cases z))) (fun _=>?_)⟩
  refine ⟨⟨by decide,by decide⟩,_,rfl,fun n h1 h2=>⟨⟨by decide,by decide⟩,_,rfl,fun m k1 k2=>?_⟩⟩
  dsimp! only [true_and]
  refine aS (q (.fr n (if m > n then m else n)) ⟨h1,by split <;> omega⟩ rfl (fun z=>by cases z))
 dsimp! only [iV,List.length_map]
 refine gX (fun h=>⟨by decide,gX (fun _=>?_) (fun _=>?_)⟩) (fun h=>?_)
 ·refine ⟨⟨by decide,by decide⟩,hl,_,hat2,aS (q (.hole s) (nX hat) rfl fun _=>of_decide_eq_true h)⟩
 ·simpa only [mK,mM,eQ,bV,bM,cB,tP,wG,items,oD,sH,jS,o3,zA,Ay,at2,Cf,Option.some.injEq,exists_eq_left',true_and,and_true,wF,tH,jV,qK,oR,p5,rD,qV,tG,BQ,AJ,Am,AH,mO,iC,eO,jI,yV,tB,tF,sI,mV,xO,n8,pA,uC,sO,cN,cT,rL,bJ,hName,lH,zP,lR,pK,uI,n9,tQ,rH,yU,sX,sQ,jL,i5,oB,mQ,qZ,tM,mY,mN,mW,kK,oQ,jM,oZ,o4,oW,lW,mS,aI,gG,sS,wV,wQ,xW,r9,h7,rA,xU,sL,j9,oM,wJ,oI,oK,oN,oS,sA, List.map_cons,List.map_nil,List.length_cons,List.length_nil,List.cons_append,List.nil_append,List.replicate,List.getElem?_cons_zero,List.getElem?_cons_succ,List.set_cons_zero,List.set_cons_succ,List.append_nil,Nat.reduceAdd,Nat.reduceSub,Nat.sub_self,Nat.add_sub_cancel,Bool.not_false,Bool.not_true,if_true,if_false,Bool.false_eq_true,reduceCtorEq,decide_true,decide_false,dP,dZ,eA,dG,dR,dQ,fZ,gT,gY,eW,gC,gA,gU,iJ,iL,fS,gZ,gJ,gS,iM,iK,fV,gR,gQ,e7,fQ,fW,eL,eY,eU,fT,gM,gN,eV,gD,fX,gB,gK,gP,eX,fR,fY,qN,tJ,aW,rS,lV,BV,Nat.reduceLeDiff,Option.getD_some] using fin
 ·simpa only [mK,mM,eQ,bV,bM,cB,tP,wG,items,oD,sH,jS,o3,zA,Ay,at2,Cf,Option.some.injEq,exists_eq_left',true_and,and_true,wF,tH,jV,qK,oR,p5,rD,qV,tG,BQ,AJ,Am,AH,mO,iC,eO,jI,yV,tB,tF,sI,mV,xO,n8,pA,uC,sO,cN,cT,rL,bJ,hName,lH,zP,lR,pK,uI,n9,tQ,rH,yU,sX,sQ,jL,i5,oB,mQ,qZ,tM,mY,mN,mW,kK,oQ,jM,oZ,o4,oW,lW,mS,aI,gG,sS,wV,wQ,xW,r9,h7,rA,xU,sL,j9,oM,wJ,oI,oK,oN,oS,sA, List.map_cons,List.map_nil,List.length_cons,List.length_nil,List.cons_append,List.nil_append,List.replicate,List.getElem?_cons_zero,List.getElem?_cons_succ,List.set_cons_zero,List.set_cons_succ,List.append_nil,Nat.reduceAdd,Nat.reduceSub,Nat.sub_self,Nat.add_sub_cancel,Bool.not_false,Bool.not_true,if_true,if_false,Bool.false_eq_true,reduceCtorEq,decide_true,decide_false,dP,dZ,eA,dG,dR,dQ,fZ,gT,gY,eW,gC,gA,gU,iJ,iL,fS,gZ,gJ,gS,iM,iK,fV,gR,gQ,e7,fQ,fW,eL,eY,eU,fT,gM,gN,eV,gD,fX,gB,gK,gP,eX,fR,fY,qN,tJ,aW,rS,lV,BV,Nat.reduceLeDiff,Option.getD_some] using fin
noncomputable def i6:Pt->PyData
 | .hole c=>.tuple [.str "at",.str c]
 | .any=>.tuple [.str "any"]
 | .fr l h=>.tuple [.str "from",.int l,.int h]
 | .turn a=>.tuple [.str "turn",i6 a]
 | .two o a b=>.tuple [.str o.word,i6 a,i6 b]
theorem vN:∀ p:Pt,toD p.toU=some (i6 p)
 | .hole c=>by simp [Pt.toU,toD,cV,i6]
 | .any=>by simp [Pt.toU,toD,cV,i6]
 | .fr l h=>by simp [Pt.toU,toD,cV,i6]
 | .turn a=>by simp [Pt.toU,toD,cV,i6,vN a]
 | .two o a b=>by simp [Pt.toU,toD,cV,i6,vN a,vN b]
theorem Aj:∀ p:Pt,p.ok->(i6 p).canLay0=true
 | .hole c,h=>by
  have h':PyData.strOk c=true:=h
  simp only [i6,PyData.canLay0,PyData.canLayAll0,h'];decide +kernel
 | .any,_=>by decide +kernel
 | .fr l h,_=>by simp only [i6,PyData.canLay0,PyData.canLayAll0];decide +kernel
 | .turn a,h=>by simp only [i6,PyData.canLay0,PyData.canLayAll0,Aj a h];decide +kernel
 | .two o a b,h=>by
  have:PyData.strOk o.word=true:=by cases o <;> decide +kernel
  simp only [i6,PyData.canLay0,PyData.canLayAll0,Aj a h.1,Aj b h.2,this];decide +kernel
noncomputable def mH:Tr->PyData
 | .num n=>.tuple [.str "num",.int n]
 | .name x=>.tuple [.str "name",.str x]
 | .turn a=>.tuple [.str "turn",mH a]
 | .two o a b=>.tuple [.str o.word,mH a,mH b]
theorem AM:∀ p:Tr,toD p.toU=some (mH p)
 | .num c=>by simp [Tr.toU,toD,cV,mH]
 | .name c=>by simp [Tr.toU,toD,cV,mH]
 | .turn a=>by simp [Tr.toU,toD,cV,mH,AM a]
 | .two o a b=>by simp [Tr.toU,toD,cV,mH,AM a,AM b]
theorem EK:∀ p:Tr,p.ok->(mH p).canLay0=true
 | .num c,h=>by simp only [mH,PyData.canLay0,PyData.canLayAll0];decide +kernel
 | .name c,h=>by
  have h':PyData.strOk c=true:=h.1
  simp only [mH,PyData.canLay0,PyData.canLayAll0,h'];decide +kernel
 | .turn a,h=>by simp only [mH,PyData.canLay0,PyData.canLayAll0,EK a h];decide +kernel
 | .two o a b,h=>by
  have:PyData.strOk o.word=true:=by cases o <;> decide +kernel
  simp only [mH,PyData.canLay0,PyData.canLayAll0,EK a h.1,EK b h.2,this];decide +kernel
theorem FO {us:List U} {ds:List PyData} {p:Addr} {M:aH} {Q:UK} (hM:M p=some (.lst us)) (h:cV us=some ds) (hl:PyData.canLayAll0 ds=true) (q:Q (.bl (!us.isEmpty)) M):tI true (.ref p) (.lst []) M Q:=by
 have e1:j2 M (.ref p)=some (.list ds):=by simp only [j2,hM,h,Option.map_some]
 have e2:j2 M (.lst [])=some (.list []):=by simp [j2,toD,cV]
 show BK true _ _ M Q
 refine ⟨_,_,e1,e2,by simp only [PyData.canLay0];exact hl,by decide +kernel,by simp [PyData.depth,PyData.depthAll],?_⟩
 have e3:PyData.eqv (.list ds) (.list [])=us.isEmpty:=by
  rw [PyData.eqv]
  cases us with
  | nil=>simp only [cV,Option.some.injEq] at h;subst h;rfl
  | cons u us =>
   simp only [cV] at h
   cases e:toD u with
   | none=>rw [e] at h;cases h
   | some d =>
    rw [e] at h
    cases e':cV us with
    | none=>rw [e'] at h;cases h
    | some ds'=>rw [e'] at h;cases h;rfl
 simp only [e3,if_true]
 exact q
noncomputable def eK (p:Pt):U:=.tup [p.toU,.int (p.dep:Nat)]
theorem IM (l:List Pt):cV (l.map eK)=some (l.map fun p=>PyData.tuple [i6 p,.int (p.dep:Nat)]):=by
 induction l with
 | nil=>simp [cV]
 | cons p l ih=>simp [cV,toD,eK,vN,ih]
theorem MG (l:List Pt) (h:∀ p∈l,p.ok):PyData.canLayAll0 (l.map fun p=>PyData.tuple [i6 p,.int (p.dep:Nat)])=true:=by
 induction l with
 | nil=>simp [PyData.canLayAll0]
 | cons p l ih =>
  simp only [List.map_cons,PyData.canLayAll0,PyData.canLay0,Aj p (h p List.mem_cons_self),ih fun x hx=>h x (List.mem_cons_of_mem _ hx)];rfl
noncomputable def jZ:List Pt->Nat
 | []=>0
 | p :: r=>p.holes + jZ r
theorem mE:∀ l r:List Pt,jZ (l++r)=jZ l + jZ r
 | [],_=>by simp [jZ]
 | t :: l,r=>by simp [jZ,mE l r];omega
theorem R7 {α:Type} (m:List α):m=[]\/(∃ t,m=[t])\/∃ r s t,m=r++[s,t]:=by
 have key:∀ l:List α,l.reverse=[]\/(∃ t,l.reverse=[t])\/∃ r s t,l.reverse=r++[s,t]:=by
  intro l
  cases l with
  | nil=>exact .inl rfl
  | cons a l=>cases l with
   | nil=>exact .inr (.inl ⟨a,rfl⟩)
   | cons b l=>exact .inr (.inr ⟨l.reverse,b,a,by simp⟩)
 have:=key m.reverse
 rw [List.reverse_reverse] at this
 exact this
noncomputable def zL (n:Int):Op:=if n % 3=0 then .sum else if n % 3=1 then .less else .by_
theorem PX (n:Int):cK [U.str (Str.ofString "sum"),U.str (Str.ofString "less"),U.str (Str.ofString "by")] (n % 3)=some (.str (zL n).word):=by
 have e:n % 3=0\/n % 3=1\/n % 3=2:=by omega
 rcases e with e | e | e
 ·rw [e,show zL n=.sum by simp [zL,e]];exact zA
 ·rw [e,show zL n=.less by simp [zL,e]];exact Ay
 ·rw [e,show zL n=.by_ by simp [zL,e]];exact at2
theorem JO (p:Pt) (h:p.leafy=true):∃ z r,p.toU=.tup (.str z :: r)/\decide (z=Str.ofString "at")=decide (p.holes=1)/\p.holes<=1/\p.dep=1:=by
 cases p with
 | hole c=>exact ⟨_,_,rfl,by simp [Pt.holes],by simp [Pt.holes],rfl⟩
 | any=>exact ⟨_,_,rfl,by simp [Pt.holes,bY,bT,bZ,b5,bX,b7,bU],by simp [Pt.holes],rfl⟩
 | fr l h=>exact ⟨_,_,rfl,by simp [Pt.holes,bY,bT,bZ,b5,bX,b7,bU],by simp [Pt.holes],rfl⟩
 | turn a=>cases h
 | two o a b=>cases h
noncomputable def B6:c8:=fun us M Q=>∃ (l:List Int) (ss:List Str),us=[.lst (l.map .int),iV ss]/\l≠[]/\l.length<=60/\ss≠[]/\(∀ s∈ss,PyData.strOk s=true)/\∀ p:Pt,p.okS ss->p.dep<=5->p.holes<=4->Q p.toU M
theorem HZ (F:cW K "_law_pattern" "_law_pattern" pD f fd) (hm:mg "_law_pattern"=some (.ref f)) (bK:mg "len"=none) (mZ:mg "max"=none) (yG:mg "int"=none) (ID:Callee P w K mg base 2 "_law_leaf" Kz []):Callee P w K mg base 3 "_law_pattern" B6 []:=by
 refine bF F hm eE (kP fun _ _ _ _ _ _ _ _=>rfl) (aD (aO 2 eE.nd (cX (own:=true) aB))
 (aD (aO 3 eE.nd aF)
 (aD (cS (c9 (uv 0)) (aN (k:=1000) 4 eE.nd)
 (aE (b6 (m7.pt (kM (b8 c7 (bO (uv 4) aF) aF) (kM (b8 pY (uv 2) (cX (own:=false) aB)) (mJ (b8 Aq (aG (aG (uv 2) (lY aF)) aF) aF)))))
 (aD (aO 5 eE.nd (xY (uv 2)))
 (aE (e6 (eM (uv 2) (aA (aY (aA (aY (aA cR (aA (aG (uv 5) aF) aB))) (aA (bL (own:=false) (aG (uv 5) aF) aF) aB))) aB)))))
 (aE (b6 (m7.pt (kM (b8 xP (bO (uv 4) aF) aF) (kM (b8 xP (dA dW bK (aA (uv 2) aB)) aF) (mJ (b8 Aq (dA wR mZ (aA (aG (aG (uv 2) (lY aF)) aF) (aA (aG (aG (uv 2) (lY aF)) aF) aB))) aF)))))
 (aD (aO 5 eE.nd (xY (uv 2)))
 (aD (aO 6 eE.nd (xY (uv 2)))
 (aD (aO 7 eE.nd (aG (cX (own:=false) (aA cR (aA cR (aA cR aB)))) (bO (dU (uv 4) aF) aF)))
 (aE (e6 (eM (uv 2) (aA (aY (aA (aY (aA (uv 7) (aA (aG (uv 6) aF) (aA (aG (uv 5) aF) aB)))) (aA (bL (own:=false) aF (dA wR mZ (aA (aG (uv 6) aF) (aA (aG (uv 5) aF) aB)))) aB))) aB)))))))
 (aD (e6 (eM (uv 2) (aA (aY (aA (aR ID (aA (dU (uv 4) aF) (aA (uv 1) (aA (uv 3) aB)))) (aA aF aB))) aB)))
 (aE (aO 3 eE.nd (oT (uv 3) (Bx Sn yG (aA (xB c7 (aG (aG (aG (uv 2) (lY aF)) aF) aF) cR) aB)))))))))))
 (aE (aV (aG (aG (uv 2) (lY aF)) aF)))))) ?_
 rintro us M Q ⟨l,ss,rfl,hln,hll,hne,hss,q⟩
 refine ⟨rfl,?_⟩
 refine aP fun V hV=>?_
 simp_all! only [bJ,hName,aW,bE,aX,cG,aZ]
 intro p hp
 subst hV
 refine aP fun V hV=>?_
 simp_all! only [bJ,hName,aW,bE,aX,cG,aZ]
 subst hV
 refine aP fun V hV=>?_
 refine cP (S:=⟨none,l.map U.int⟩) (M1:=mup M p (.lst [])) (fun R r=>by simp_all! only [aW,bE,aX,cG,aZ];exact r)
  (fun i τ Mi=>∃ (st:List Pt) (room:Int) (a b c e:Option U),τ=[some (.lst (l.map .int)),some (iV ss),some (.ref p),some (.int room),a,b,c,e]/\Mi=mup M p (.lst (st.map eK))/\(∀ q∈st,q.okS ss/\q.dep<=5)/\(jZ st:Int) + room=4/\0<=room/\st.length<=i/\(0 < i->st≠[]))
  ⟨[],4,none,none,none,none,rfl,rfl,(fun q h=>by cases h),by simp [jZ],by decide,by simp,fun z=>by omega⟩ nk ?_ ?_
 ·rintro i x τ Mi e ⟨st,room,a,b,c,e',rfl,rfl,hok,hsum,hroom,hlen,hn0⟩
  have hi:i < 60:=by
   have:=(List.getElem?_eq_some_iff.mp e).1
   simp at this;omega
  obtain ⟨n,rfl⟩:∃ n,x=U.int n:=by
   obtain ⟨c,_,e⟩:=List.mem_map.mp (List.mem_of_getElem? e)
   exact ⟨c,e.symm⟩
  have hds:=IM st
  have hly:=MG st fun q hq=>(hok q hq).1.ok hss
  simp_all! only [hName,aW,bE,aX,cG,aZ]
  generalize hP:(fun (τ:SU) (Mi:aH)=>∃ (st:List Pt) (room:Int) (a b c e:Option U),τ=[some (.lst (l.map .int)),some (iV ss),some (.ref p),some (.int room),a,b,c,e]/\Mi=mup M p (.lst (st.map eK))/\(∀ q∈st,q.okS ss/\q.dep<=5)/\(jZ st:Int) + room=4/\0<=room/\st.length<=i + 1/\(0 < i + 1->st≠[]))=PP
  have into:∀ (st:List Pt) (room:Int) (a b c e:Option U),(∀ q∈st,q.okS ss/\q.dep<=5)->(jZ st:Int) + room=4->0<=room->st.length<=i + 1->st≠[]->PP [some (.lst (l.map .int)),some (iV ss),some (.ref p),some (.int room),a,b,c,e] (mup M p (.lst (st.map eK))):=fun st room a b c e h1 h2 h3 h4 h5=>by
   rw [<- hP];exact ⟨st,room,a,b,c,e,rfl,rfl,h1,h2,h3,h4,fun _=>h5⟩
  refine dY fun A B hA hB=>?_
  have hb:B (mup M p (.lst (st.map eK))):=by
   subst hB
   refine dY fun A2 B2 hA2 hB2=>?_
   have hb2:B2 (mup M p (.lst (st.map eK))):=by
    subst hB2
    refine aP fun V1 hV1=>?_
    simp_all! only [i5,aW,bE,aX,cG,aZ]
    refine ⟨eN,⟨by decide,by decide⟩,_,ss,room,rfl,hne,hss,fun pt g1 g2 g3=>?_⟩
    simp_all! only [aW,bE,aX,cG,aZ]
    refine ⟨big (by rw [List.length_map];omega),?_⟩
    subst hV1
    obtain ⟨z,rr,e,e1,e2,e3⟩:=JO pt g2
    simp_all! only [bJ,hName,xC,e,e1,aW,bE,aX,cG,aZ]
    have hen:st.map eK++[.tup [.tup (.str z :: rr),.int 1]]=(st++[pt]).map eK:=by
     simp [eK,e,e3]
    rw [hen]
    refine into (st++[pt]) _ _ _ _ _ ?_ ?_ ?_ (by rw [List.length_append];simp;omega) (by simp)
    ·intro q hq
     rcases List.mem_append.mp hq with hq | hq
     ·exact hok q hq
     ·cases List.mem_singleton.mp hq;exact ⟨g1,by omega⟩
    ·rw [mE]
     simp only [jZ]
     by_cases hh:pt.holes=1
     ·rw [decide_eq_true hh];simp only [if_true];omega
     ·rw [decide_eq_false hh];simp only [Bool.false_eq_true,if_false];omega
    ·by_cases hh:pt.holes=1
     ·have:=g3 hh;rw [decide_eq_true hh];simp only [if_true];omega
     ·rw [decide_eq_false hh];simp only [Bool.false_eq_true,if_false];omega
   simp_all! only [List.length_map,aW,bE,aX,cG,aZ]
   refine ⟨by decide,gX (fun _=>?_) (fun _=>?_)⟩
   ·rcases R7 st with rfl | ⟨t,rfl⟩ | ⟨r,s,t,rfl⟩
    ·exact hb2
    ·exact hb2
    ·have d2:decide ((1:Int) < (((r++[s,t]).length:Nat):Int))=true:=decide_eq_true (by rw [List.length_append];simp;omega)
     have gt:=hok t (by simp)
     have gs:=hok s (by simp)
     have hm:(r++[s,t]).map eK=r.map eK++[eK s,eK t]:=by simp
     simp_all! only [d2,hm,Rz,Qd,eK,aW,bE,aX,cG,aZ]
     refine gX (fun hd=>?_) (fun _=>by rw [hm] at hb2;exact hb2)
     have hdd:max t.dep s.dep < 5:=by
      have:=of_decide_eq_true hd
      split at this <;> omega
     subst hA2
     refine aP fun V1 hV1=>?_
     simp_all! only [bJ,hName,Te,Tf,aW,bE,aX,cG,aZ]
     refine ⟨eN,?_⟩
     subst hV1
     refine aP fun V1 hV1=>?_
     simp_all! only [bJ,hName,Iz,GZ,aW,bE,aX,cG,aZ]
     refine ⟨eN,?_⟩
     subst hV1
     refine aP fun V1 hV1=>?_
     simp_all! only [bJ,hName,aW,bE,aX,cG,aZ]
     refine ⟨⟨by decide,by decide⟩,by decide,_,PX _,?_⟩
     subst hV1
     simp_all! only [i5,aW,bE,aX,cG,aZ]
     refine ⟨eN,?_⟩
     have hen:∀ v:Int,v=((max s.dep t.dep + 1:Nat):Int)->r.map eK++[.tup [.tup [.str (zL (n / 4)).word,s.toU,t.toU],.int v]]=(r++[Pt.two (zL (n / 4)) s t]).map eK:=fun v hv=>by
      rw [hv];simp [eK,Pt.toU,Pt.dep]
     refine ⟨big (by simp at hlen ⊢;omega),?_⟩
     have hen2:=hen _ (show (1:Int) + (if (t.dep:Int) > (s.dep:Int) then (t.dep:Int) else (s.dep:Int))=((max s.dep t.dep + 1:Nat):Int) by split <;> omega)
     try simp only [eK] at hen2 ⊢
     rw [hen2]
     have hsum2:=hsum
     rw [mE] at hsum2
     simp only [jZ] at hsum2
     refine into (r++[Pt.two (zL (n / 4)) s t]) room _ _ _ _ ?_ (by rw [mE];simp only [jZ,Pt.holes];omega) hroom (by simp at hlen ⊢;omega) (by simp)
     intro q hq
     rcases List.mem_append.mp hq with hq | hq
     ·exact hok q (List.mem_append_left _ hq)
     ·cases List.mem_singleton.mp hq
      exact ⟨⟨gs.1,gt.1⟩,by simp only [Pt.dep];omega⟩
   ·exact hb2
  simp_all! only [aW,bE,aX,cG,aZ]
  refine ⟨by decide,gX (fun _=>FO aI hds hly ?_) (fun _=>hb)⟩
  rcases List.eq_nil_or_concat st with rfl | ⟨r,t,rfl⟩
  ·simp only [List.map_nil,List.isEmpty_nil,Bool.not_true,Bool.false_eq_true,if_false]
   exact hb
  ·rw [List.concat_eq_append] at *
   have gt:=hok t (by simp)
   have hm:(r++[t]).map eK=r.map eK++[eK t]:=by simp
   have hie:(r.map eK++[eK t]).isEmpty=false:=by simp
   simp only [hm,hie,Bool.not_false,if_true]
   simp_all! only [xC,eK,aW,bE,aX,cG,aZ]
   refine gX (fun hd=>?_) (fun _=>by rw [hm] at hb;exact hb)
   have hdt:=of_decide_eq_true hd
   subst hA
   refine aP fun V1 hV1=>?_
   simp_all! only [bJ,hName,Iz,GZ,aW,bE,aX,cG,aZ]
   refine ⟨eN,?_⟩
   subst hV1
   simp_all! only [i5,aW,bE,aX,cG,aZ]
   refine ⟨eN,?_⟩
   refine ⟨big (by simp at hlen ⊢;omega),?_⟩
   have hen:r.map eK++[.tup [.tup [.str (Str.ofString "turn"),t.toU],.int ((t.dep:Int) + 1)]]=(r++[Pt.turn t]).map eK:=by
    simp [eK,Pt.toU,Pt.dep]
   try simp only [eK] at hen ⊢
   rw [hen]
   have hsum2:=hsum
   rw [mE] at hsum2
   simp only [jZ] at hsum2
   refine into (r++[Pt.turn t]) room _ _ _ _ ?_ (by rw [mE];simp only [jZ,Pt.holes];omega) hroom (by simp at hlen ⊢;omega) (by simp)
   intro q hq
   rcases List.mem_append.mp hq with hq | hq
   ·exact hok q (List.mem_append_left _ hq)
   ·cases List.mem_singleton.mp hq
    exact ⟨gt.1,by simp only [Pt.dep];omega⟩
 ·rintro τ Mi ⟨st,room,a,b,c,e',rfl,rfl,hok,hsum,hroom,hlen,hn0⟩
  have hpos:0 < (Src.mk none (l.map U.int)).xs.length:=by
   have:=List.length_pos_iff.mpr hln
   simpa using this
  rcases List.eq_nil_or_concat st with rfl | ⟨r,t,rfl⟩
  ·exact absurd rfl (hn0 hpos)
  ·have hok':=hok t (by simp)
   have hsum':(jZ r:Int) + t.holes + room=4:=by
    have h2:jZ (r.concat t)=jZ r + t.holes:=by rw [List.concat_eq_append,mE];simp [jZ]
    rw [h2] at hsum;omega
   subst hV
   have hm:(r.concat t).map eK=r.map eK++[eK t]:=by simp
   simp_all! only [cT,hm,xC,eK,aW,bE,aX,cG,aZ]
   exact ⟨_,M,(Sub.refl M).mup hp,.inl rfl,q t hok'.1 hok'.2 (by omega)⟩
noncomputable def aU (p:List Nat):U:=.tup (p.map fun (n:Nat)=>.int (n:Int))
noncomputable def cM (x:List Nat × Pt):U:=.tup [aU x.1,x.2.toU]
noncomputable def bD:Pt->List Nat->List (List Nat × Pt)
 | .turn a,pl=>bD a (pl++[0])
 | .two _ a b,pl=>bD a (pl++[0])++bD b (pl++[1])
 | p,pl=>[(pl,p)]
theorem lE:∀ (p:Pt) (pl:List Nat),(bD p pl).map (·.2)=p.ends
 | .turn a,pl=>by simp only [bD,Pt.ends,lE a]
 | .two _ a b,pl=>by simp only [bD,Pt.ends,List.map_append,lE a,lE b]
 | .hole _,pl=>rfl
 | .any,pl=>rfl
 | .fr _ _,pl=>rfl
theorem kH:∀ (p:Pt) (pl:List Nat),(bD p pl).length<=2 ^ p.dep
 | .turn a,pl=>by have:=kH a (pl++[0]);simp only [bD,Pt.dep,Nat.pow_succ];omega
 | .two _ a b,pl=>by
  have h1:=kH a (pl++[0])
  have h2:=kH b (pl++[1])
  have h3:2 ^ a.dep<=2 ^ max a.dep b.dep:=Nat.pow_le_pow_right (by decide) (Nat.le_max_left _ _)
  have h4:2 ^ b.dep<=2 ^ max a.dep b.dep:=Nat.pow_le_pow_right (by decide) (Nat.le_max_right _ _)
  simp only [bD,Pt.dep,Nat.pow_succ,List.length_append];omega
 | .hole _,pl=>by simp [bD,Pt.dep]
 | .any,pl=>by simp [bD,Pt.dep]
 | .fr _ _,pl=>by simp [bD,Pt.dep]
theorem Qh (z:Str):([U.str (Str.ofString "at"),U.str (Str.ofString "any"),U.str (Str.ofString "from")].any fun u=>zO u (.str z))=(decide (Str.ofString "at"=z) || (decide (Str.ofString "any"=z) || decide (Str.ofString "from"=z))):=by
 have e:∀ a:Str,zO (.str a) (.str z)=decide (a=z):=fun a=>by
  show (a == z)=_
  by_cases h:a=z
  ·subst h;simp
  ·simp [h]
 simp only [List.any_cons,List.any_nil,e,Bool.or_false]
noncomputable def oU (n:Nat):c8:=fun us M Q=>∃ (p:Pt) (pl:List Nat),us=[p.toU,aU pl]/\p.dep<=n/\pl.length + n<=50/\n<=10/\Q (.lst ((bD p pl).map cM)) M
noncomputable def k9:List Pt->List Nat->Nat->List (List Nat × Pt)
 | [],_,_=>[]
 | a :: r,pl,k=>bD a (pl++[k])++k9 r pl (k + 1)
theorem A7 (pl:List Nat) (a:Pt):∀ (l:List Pt) (k:Nat),k9 (l++[a]) pl k=k9 l pl k++bD a (pl++[k + l.length])
 | [],k=>by simp [k9]
 | b :: l,k=>by
  rw [List.cons_append,k9,A7 pl a l (k + 1),k9,List.append_assoc,List.length_cons,show k + 1 + l.length=k + (l.length + 1) by omega]
theorem Ce (pl:List Nat):∀ (l:List Pt) (k:Nat),(∀ x∈l,x.dep<=10)->(k9 l pl k).length<=1024 * l.length
 | [],k,_=>by simp [k9]
 | b :: l,k,h=>by
  have h1:=kH b (pl++[k])
  have h2:=Ce pl l (k + 1) fun x hx=>h x (List.mem_cons_of_mem _ hx)
  have h3:2 ^ b.dep<=2 ^ 10:=Nat.pow_le_pow_right (by decide) (h b List.mem_cons_self)
  rw [k9,List.length_append,List.length_cons];omega
theorem Ou {n:Nat} (F:cW K "_law_ends" "_law_ends" pN f fd) (hm:mg "_law_ends"=some (.ref f)) (bH:mg "enumerate"=none) (iE:Callee P w K mg base (n + 1) "_law_ends" (oU n) []):Callee P w K mg base (n + 2) "_law_ends" (oU (n + 1)) []:=by
 refine bF F hm lU (kP fun _ _ _ _ _ _ _ _=>rfl) (aD (b6 (b8 MY (aG (uv 0) aF) (aY (aA cR (aA cR (aA cR aB)))))
 (aE (aV (cX (own:=false) (aA (aY (aA (uv 1) (aA (uv 0) aB))) aB))))
 bI)
 (aD (aO 2 lU.nd (cX (own:=false) aB))
 (aD (cS (kQ bH (aA (lM (own:=false) (uv 0) (jU aF) k0) aB)) (eJ (n:=2) (bB (aN (k:=1000) 3 lU.nd) (bB (aN (k:=1000) 4 lU.nd) dH)))
 (aE (aO 2 lU.nd (bL (own:=false) (uv 2) (aR iE (aA (uv 4) (aA (bL (own:=false) (uv 1) (aY (aA (uv 3) aB))) aB)))))))
 (aE (aV (uv 2)))))) ?_
 rintro us M Q ⟨p,pl,rfl,hd,hpl,hn,q⟩
 refine ⟨rfl,?_⟩
 have fl:∀ z:Str,jN (.str z)=true:=fun _=>rfl
 have fl2:[U.str (Str.ofString "at"),U.str (Str.ofString "any"),U.str (Str.ofString "from")].all jN=true:=rfl
 have h10:∀ m,m<=10->2 ^ m<=1024:=fun m h=>Nat.pow_le_pow_right (n:=2) (by decide) h
 refine aP fun V hV=>?_
 have g:∀ (s:Str) (ps:List Pt),p.toU=.tup (.str s :: ps.map Pt.toU)->ps.length<=2->(∀ x∈ps,x.dep<=n)->bD p pl=k9 ps pl 0->V [some p.toU,some (aU pl),none,none,none] M:=fun s ps e1 h2 hdp he=>by
  subst hV
  refine aP fun V hV=>?_
  simp_all! only [bJ,hName,bV,bM,cB,hName,aW]
  subst hV
  refine aP fun V hV=>?_
  refine cP (S:=⟨none,numbered (ps.map Pt.toU)⟩) (M1:=M) (fun R r=>by simp_all! only [e1,xQ,bV,bM,cB,hName,aW];exact r) (fun i τ Mi=>∃ x y,τ=[some p.toU,some (aU pl),some (.lst ((k9 (ps.take i) pl 0).map cM)),x,y]/\Mi=M) ⟨none,none,rfl,rfl⟩ nk ?_ ?_
  ·rintro i x τ Mi e ⟨b,c,rfl,rfl⟩
   obtain ⟨u,hu,rfl⟩:=iY e
   rw [List.getElem?_map] at hu
   cases hk:ps[i]? with
   | none=>rw [hk] at hu;cases hu
   | some a =>
    rw [hk] at hu
    cases hu
    have hi:=(List.getElem?_eq_some_iff.mp hk).1
    have hda:=hdp a (List.mem_of_getElem? hk)
    have ht:ps.take (i + 1)=ps.take i++[a]:=by rw [List.take_add_one,hk];rfl
    have hl:=kH a (pl++[i])
    have hl2:=Ce pl (ps.take i) 0 fun x hx=>Nat.le_trans (hdp x (List.mem_of_mem_take hx)) (by omega)
    have hl3:(ps.take i).length<=1:=by rw [List.length_take];omega
    have:=h10 a.dep (by omega)
    simp_all! only [bJ,hName,bV,bM,cB,aU,bV,bM,cB,hName,aW]
    refine ⟨small (by simp;omega),a,pl++[i],by simp [aU],hda,by simp;omega,by omega,?_⟩
    simp_all! only [bV,bM,cB,hName,aW]
    refine ⟨small (by simp;omega),some (.int i),some a.toU,?_⟩
    rw [ht,A7,List.length_take,Nat.min_eq_left (by omega)]
    simp [aU]
  ·rintro τ Mi ⟨b,c,rfl,rfl⟩
   have hx:(Src.mk none (numbered (ps.map Pt.toU))).xs.length=ps.length:=by show (numbered (ps.map Pt.toU)).length=_;rw [iW,List.length_map]
   rw [hx,List.take_length,<- he]
   subst hV
   simp_all! only [cT,bV,bM,cB,hName,aW]
   exact aS q
 refine dY fun A B hA hB=>?_
 have hyes:V [some p.toU,some (aU pl),none,none,none] M->B M:=fun h=>by subst hB;simp only [cN];exact h
 cases p with
 | turn a =>
  simp_all! only [Pt.toU,bY,bT,bZ,b5,bX,b7,bU,Qh,fl,fl2,Bool.or_false,bV,bM,cB,hName,aW]
  exact hyes (g "turn" [a] rfl (by simp) (by simp only [Pt.dep] at hd;simp;omega) (by simp [bD,k9]))
 | two o a c =>
  simp_all! only [Pt.toU,bY,bT,bZ,b5,bX,b7,bU,Qh,fl,fl2,Bool.or_false,bV,bM,cB,hName,aW]
  exact hyes (g o.word [a,c] rfl (by simp) (by simp only [Pt.dep] at hd;simp;omega) (by simp [bD,k9]))
 | _ =>
  simp_all! only [Pt.toU,bY,bT,bZ,b5,bX,b7,bU,Qh,fl,fl2,Bool.true_or,Bool.or_true,bV,bM,cB,hName,aW]
  subst hA
  simp_all! only [cT,Pt.toU,bV,bM,cB,hName,aW]
  exact aS q
noncomputable def jT:List Pt->List U->Prop
 | [],bs=>bs=[]
 | .hole _ :: r,bs=>jT r bs
 | .any :: r,bs=>∃ z bs',bs=.str z :: bs'/\PyData.strOk z=true/\z.length<=8/\jT r bs'
 | .fr l h :: r,bs=>∃ n bs',bs=.int n :: bs'/\l<=n/\n<=h/\jT r bs'
 | _ :: _,_=>False
theorem nV:∀ {l r:List Pt} {bs cs:List U},jT l bs->jT r cs->jT (l++r) (bs++cs)
 | [],r,bs,cs,h,k=>by
  have h':bs=[]:=h
  subst h';exact k
 | .hole _ :: l,r,bs,cs,h,k=>nV (l:=l) h k
 | .any :: l,r,bs,cs,h,k=>by
  obtain ⟨z,bs',rfl,h1,h2,h3⟩:=h
  exact ⟨z,bs'++cs,rfl,h1,h2,nV h3 k⟩
 | .fr _ _ :: l,r,bs,cs,h,k=>by
  obtain ⟨n,bs',rfl,h1,h2,h3⟩:=h
  exact ⟨n,bs'++cs,rfl,h1,h2,nV h3 k⟩
 | .turn _ :: l,r,bs,cs,h,k=>h.elim
 | .two _ _ _ :: l,r,bs,cs,h,k=>h.elim
theorem pU:∀ {l r:List Pt} {bs:List U},jT (l++r) bs->∃ b1 b2,bs=b1++b2/\jT l b1/\jT r b2
 | [],r,bs,h=>⟨[],bs,rfl,rfl,h⟩
 | .hole _ :: l,r,bs,h=>pU (l:=l) h
 | .any :: l,r,bs,h=>by
  obtain ⟨z,bs',rfl,h1,h2,h3⟩:=h
  obtain ⟨b1,b2,rfl,k1,k2⟩:=pU h3
  exact ⟨.str z :: b1,b2,rfl,⟨z,b1,rfl,h1,h2,k1⟩,k2⟩
 | .fr _ _ :: l,r,bs,h=>by
  obtain ⟨z,bs',rfl,h1,h2,h3⟩:=h
  obtain ⟨b1,b2,rfl,k1,k2⟩:=pU h3
  exact ⟨.int z :: b1,b2,rfl,⟨z,b1,rfl,h1,h2,k1⟩,k2⟩
 | .turn _ :: l,r,bs,h=>h.elim
 | .two _ _ _ :: l,r,bs,h=>h.elim
noncomputable def p7:Pt->Tr->List U
 | .any,.name x=>[.str x]
 | .fr _ _,.num n=>[.int n]
 | .turn p,.turn a=>p7 p a
 | .two _ p q,.two _ a b=>p7 p a++p7 q b
 | _,_=>[]
theorem Ih {us:List U} {u:U} {M:aH} {a:Addr} {Q:UK} (h:M a=some (.lst (u :: us))) (q:Q u (mup M a (.lst us))):aW (.ref a) [.int 0] M Q:=by
 simp only [aW,h]
 refine ⟨by decide,by decide,0,u,?_,rfl,q⟩
 simp [seqIndex?]
theorem AE {M:aH} {a:Addr} {us:List U} (h:M a=some (.lst us)):FT M (.ref a):=⟨us,gF h⟩
theorem leave {M Mi:aH} {p0 b t:Addr} {rb rt:List U} {Q:UK} {u:U} (nb:b≠p0) (nt:t≠p0) (hp0:M p0=none) (hM:∀ x,x≠p0->x≠b->x≠t->Mi x=M x) (m1:Mi b=some (.lst rb)) (m2:Mi t=some (.lst rt))
  (q:∀ M':aH,M' b=some (.lst rb)->M' t=some (.lst rt)->(∀ x,x≠b->x≠t->M' x=M x)->Q u M'):kD Q u Mi:=by
 refine ⟨u,fun x=>if x=p0 then none else Mi x,fun x o hx=>?_,.inl rfl,q _ ?_ ?_ fun x h1 h2=>?_⟩
 ·have hx':(if x=p0 then none else Mi x)=some o:=hx
  split at hx'
  ·cases hx'
  ·exact hx'
 ·show (if b=p0 then none else Mi b)=_
  rw [if_neg nb];exact m1
 ·show (if t=p0 then none else Mi t)=_
  rw [if_neg nt];exact m2
 ·show (if x=p0 then none else Mi x)=_
  split
  ·rename_i z;rw [z,hp0]
  ·rename_i z;exact hM x z h1 h2
theorem Df (F:cW K "_law_ends" "_law_ends" pN f fd) (hm:mg "_law_ends"=some (.ref f)) (bH:mg "enumerate"=none):∀ n,Callee P w K mg base (n + 1) "_law_ends" (oU n) []
 | 0=>by
  have no:∀ us M Q,¬ oU 0 us M Q:=fun us M Q h=>by
   obtain ⟨p,t,_,h,_⟩:=h
   have:=nY p
   omega
  refine ⟨f,fd,["pattern","place"],[],[],⟨fun vs H Q E h=>?_,fun A outer s H args us vs Q E _ _ _ _ h=>?_⟩,hm,F.kp,F.binds (kP fun _ _ _ _ _ _ _ _=>rfl),.nil,fun H M=>.nil⟩
  ·obtain ⟨us,M,Q',_,_,h,_⟩:=h;exact absurd h (no us M Q')
  ·obtain ⟨us,M,Q',_,_,h,_⟩:=h;exact absurd h (no us M Q')
 | n + 1=>Ou F hm bH (Df F hm bH n)
theorem BP {o:Bool} {k:Nat} {ix:List Nat} {wi:UI} {g:UG} {te:UE} {τ:SU} {M M1:aH} {Q:UK} {S:Src} (Pd:U->Prop) (hw:∀ R:Src->aH->Prop,R S M1->wi τ M R) (hz:S.xs.length<=sizeLine) (hs:S.ok M1)
  (h:∀ (i:Nat) x,S.xs[i]?=some x->∀ M,Sub M1 M->∀ R:UK,(∀ y,Pd y->R y M)->g x (eQ k ix τ) M fun τ2 M2=>te τ2 M2 R)
  (q:∀ zs,zs.length=S.xs.length->(∀ z∈zs,Pd z)->jL o zs M1 Q):uR o k ix wi g (fun _ M Q=>Q true M) te τ M Q:=by
 refine hw _ ⟨hz,fun D hD=>⟨fun i ys M=>ys.length=i/\(∀ y∈ys,Pd y)/\M=mup M1 D (.lst ys)/\i<=S.xs.length,⟨rfl,(fun y h=>by cases h),rfl,Nat.zero_le _⟩,?_,?_,?_⟩⟩
 ·rintro i ys M ⟨rfl,hy,rfl,hi⟩
  refine ⟨fun a e=>?_,aI,?_⟩
  ·have:=hs a e
   rw [aK (fun z=>by subst z;rw [hD] at this;cases this)]
   exact this
  ·omega
 ·rintro i x ys M e ⟨rfl,hy,rfl,hi⟩
  have hlt:ys.length < S.xs.length:=(List.getElem?_eq_some_iff.mp e).1
  refine h ys.length x e (mup M1 D (.lst ys)) ((Sub.refl M1).mup hD) (fun y M4=>M4 D=some (.lst ys)/\((ys++[y]).length=ys.length + 1/\(∀ z∈ys++[y],Pd z)/\mup M4 D (.lst (ys++[y]))=mup M1 D (.lst (ys++[y]))/\ys.length + 1<=S.xs.length)) fun y py=>?_
  refine ⟨aI,by simp,fun z hz=>?_,gG,hlt⟩
  rcases List.mem_append.mp hz with hz | hz
  ·exact hy z hz
  ·cases List.mem_singleton.mp hz;exact py
 ·rintro ys M ⟨hl,hy,rfl,hi⟩
  have:=q ys hl hy
  cases o with
  | true=>exact this D hD
  | false=>exact ⟨M1,(Sub.refl M1).mup hD,hD,this⟩
theorem PJ (l:List Int) (a b:Nat) (h:a<=b) (hb:b<=l.length):∃ r:List Int,iB (l.map U.int) (some (a:Int)) (some (b:Int))=r.map U.int/\r.length=b - a:=by
 refine ⟨(l.drop a).take (b - a),?_,by rw [List.length_take,List.length_drop];omega⟩
 unfold iB
 rw [List.length_map]
 have e1:HT.bW l.length 0 (some (a:Int))=a:=by
  simp only [HT.bW]
  rw [if_neg (by omega)]
  have:((a:Int)).toNat=a:=by omega
  rw [this];omega
 have e2:HT.bW l.length l.length (some (b:Int))=b:=by
  simp only [HT.bW]
  rw [if_neg (by omega)]
  have:((b:Int)).toNat=b:=by omega
  rw [this];omega
 rw [e1,e2,List.map_take,List.map_drop]
theorem pQ:∀ (p:Pt) (pl:List Nat),p.ok->∀ e∈bD p pl,e.2.leafy=true/\e.2.ok
 | .turn a,pl,h,e,he=>pQ a (pl++[0]) h e he
 | .two _ a b,pl,h,e,he=>by
  simp only [bD] at he
  rcases List.mem_append.mp he with he | he
  ·exact pQ a _ h.1 e he
  ·exact pQ b _ h.2 e he
 | .hole _,pl,h,e,he=>by cases List.mem_singleton.mp he;exact ⟨rfl,h⟩
 | .any,pl,h,e,he=>by cases List.mem_singleton.mp he;exact ⟨rfl,h⟩
 | .fr _ _,pl,h,e,he=>by cases List.mem_singleton.mp he;exact ⟨rfl,h⟩
theorem hJ (l:List Int) (k:Nat) (h:k < l.length):cK (l.map U.int) (k:Int)=some (.int l[k]):=fP (by rw [List.getElem?_map,List.getElem?_eq_getElem h];rfl)
noncomputable def cQ:fF:=fun x y M Q=>match x,y with
 | .bl i,.bl j=>Q (.bl (decide (i=j))) M
 | _,_=>False
noncomputable def Pt.parts:Pt->List Pt
 | .turn a=>[a]
 | .two _ a b=>[a,b]
 | _=>[]
noncomputable def cO:Pt->List Nat->List (List Nat × Pt)
 | .turn a,pl=>(pl,.turn a) :: cO a (pl++[0])
 | .two o a b,pl=>(pl,.two o a b) :: (cO a (pl++[0])++cO b (pl++[1]))
 | p,pl=>[(pl,p)]
noncomputable def Pt.places:Pt->List (List Nat)
 | .turn a=>[] :: a.places.map (0 :: ·)
 | .two _ a b=>[] :: (a.places.map (0 :: ·)++b.places.map (1 :: ·))
 | _=>[[]]
theorem j5:∀ (p:Pt) (pl:List Nat),(cO p pl).map (·.1)=p.places.map (pl++·)
 | .turn a,pl=>by simp [cO,Pt.places,j5 a]
 | .two o a b,pl=>by
  simp only [cO,Pt.places,List.map_cons,List.map_append,j5 a,j5 b,List.map_map,List.append_nil]
  simp [Function.comp_def]
 | .hole _,pl=>by simp [cO,Pt.places]
 | .any,pl=>by simp [cO,Pt.places]
 | .fr _ _,pl=>by simp [cO,Pt.places]
theorem places_len:∀ p:Pt,p.places.length < 2 ^ p.dep
 | .turn a=>by have:=places_len a;simp only [Pt.places,Pt.dep,List.length_cons,List.length_map,Nat.pow_succ];omega
 | .two _ a b=>by
  have h1:=places_len a
  have h2:=places_len b
  have h3:2 ^ a.dep<=2 ^ max a.dep b.dep:=Nat.pow_le_pow_right (by decide) (Nat.le_max_left _ _)
  have h4:2 ^ b.dep<=2 ^ max a.dep b.dep:=Nat.pow_le_pow_right (by decide) (Nat.le_max_right _ _)
  simp only [Pt.places,Pt.dep,Nat.pow_succ,List.length_cons,List.length_append,List.length_map];omega
 | .hole _=>by simp [Pt.places,Pt.dep]
 | .any=>by simp [Pt.places,Pt.dep]
 | .fr _ _=>by simp [Pt.places,Pt.dep]
theorem lP:∀ (p:Pt) (pl:List Nat),pl∈p.places->pl.length < p.dep
 | .turn a,pl,h=>by
  simp only [Pt.places,List.mem_cons,List.mem_map] at h
  rcases h with rfl | ⟨q,hq,rfl⟩
  ·simp [Pt.dep]
  ·have:=lP a q hq;simp only [Pt.dep,List.length_cons];omega
 | .two o a b,pl,h=>by
  simp only [Pt.places,List.mem_cons,List.mem_append,List.mem_map] at h
  rcases h with rfl | ⟨q,hq,rfl⟩ | ⟨q,hq,rfl⟩
  ·simp [Pt.dep]
  ·have:=lP a q hq;simp only [Pt.dep,List.length_cons];omega
  ·have:=lP b q hq;simp only [Pt.dep,List.length_cons];omega
 | .hole _,pl,h=>by simp [Pt.places] at h;subst h;simp [Pt.dep]
 | .any,pl,h=>by simp [Pt.places] at h;subst h;simp [Pt.dep]
 | .fr _ _,pl,h=>by simp [Pt.places] at h;subst h;simp [Pt.dep]
noncomputable def qX (n:Nat):c8:=fun us M Q=>∃ p:Pt,us=[p.toU]/\p.dep<=n/\n<=10/\Q (.lst (p.places.map aU)) M
theorem Ta:(e8 jE (Str.ofString "at")).isSome=false:=by decide +kernel
theorem Nw:(e8 jE (Str.ofString "any")).isSome=false:=by decide +kernel
theorem KH:(e8 jE (Str.ofString "from")).isSome=false:=by decide +kernel
theorem wM (p:Pt):∃ z r,p.toU=.tup (.str z :: r)/\(e8 jE z).isSome=!p.leafy/\(p.leafy=false->r=p.parts.map Pt.toU)/\r.length<=3:=by
 cases p with
 | hole c=>exact ⟨_,_,rfl,Ta,(fun h=>by cases h),by simp⟩
 | any=>exact ⟨_,_,rfl,Nw,(fun h=>by cases h),by simp⟩
 | fr l h=>exact ⟨_,_,rfl,KH,(fun h=>by cases h),by simp⟩
 | turn a=>exact ⟨_,_,rfl,p9,fun _=>rfl,by simp⟩
 | two o a b=>exact ⟨_,_,rfl,qD o,fun _=>rfl,by simp⟩
theorem HV {p:Pt} (h:p.leafy=true):p.parts=[]:=by cases p <;> first | rfl | cases h
noncomputable def gL:Nat->List Pt->List (List Nat)
 | _,[]=>[]
 | k,a :: r=>a.places.map (k :: ·)++gL (k + 1) r
theorem places_eq (p:Pt):p.places=[] :: gL 0 p.parts:=by cases p <;> simp [Pt.places,Pt.parts,gL]
theorem G5 (l:List Pt) (a:Pt):∀ k,gL k (l++[a])=gL k l++a.places.map ((k + l.length) :: ·):=by
 induction l with
 | nil=>intro k;simp [gL]
 | cons b l ih=>intro k;simp only [List.cons_append,gL,ih,List.length_cons,List.append_assoc];rw [show k + 1 + l.length=k + (l.length + 1) by omega]
theorem L4 (p:Pt) (i:Nat):(gL 0 (p.parts.take i)).length + 1<=p.places.length:=by
 have:∀ (l:List Pt) (k j:Nat),(gL k (l.take j)).length<=(gL k l).length:=by
  intro l
  induction l with
  | nil=>intro k j;simp [gL]
  | cons a l ih =>
   intro k j
   cases j with
   | zero=>simp [gL]
   | succ j=>simp only [List.take_succ_cons,gL,List.length_append];have:=ih (k + 1) j;omega
 have h1:=this p.parts 0 i
 rw [places_eq p,List.length_cons]
 omega
theorem Lf {p a:Pt} {i:Nat} (h:p.parts[i]?=some a):a.dep < p.dep:=by
 have hm:=List.mem_of_getElem? h
 cases p with
 | turn b =>
  have:a=b:=by simpa [Pt.parts] using hm
  subst this;simp only [Pt.dep];omega
 | two o b c =>
  have:a=b\/a=c:=by simpa [Pt.parts] using hm
  simp only [Pt.dep]
  rcases this with rfl | rfl <;> omega
 | _=>cases hm
theorem Dt {n:Nat} (F:cW K "places_of" "places_of" j7 f fd) (hm:mg "places_of"=some (.ref f)) (bH:mg "enumerate"=none)
  (cY:Callee P w K mg base 1 "parts_of" iA []) (jG:Callee P w K mg base (n + 1) "places_of" (qX n) []):Callee P w K mg base (n + 2) "places_of" (qX (n + 1)) []:=by
 refine bF F hm gW (nB fun _ _ _ _ _ _ _=>rfl) (aD (aO 1 gW.nd (cX (own:=true) (aA (aY aB) aB)))
 (aD (cS (kQ bH (aA (aR cY (aA (uv 0) aB)) aB)) (eJ (n:=2) (bB (aN (k:=1000) 2 gW.nd) (bB (aN (k:=1000) 3 gW.nd) dH)))
 (aE (e6 (B1 (uv 1) (aA (jR false ["place","number"] 1 [2] (c9 (aR jG (aA (uv 3) aB))) (aN (k:=1) 0 (by dsimp only [cJ];decide +kernel)) iS (bL (own:=false) (aY (aA (uv 1) aB)) (uv 0))) aB)))))
 (aE (aV (uv 1))))) ?_
 rintro us M Q ⟨t,rfl,hd,hz,q⟩
 refine ⟨rfl,?_⟩
 have hbig:∀ a:Pt,a.dep<=10->a.places.length<=1024:=fun a ha=>by
  have h1:=places_len a
  have h2:2 ^ a.dep<=2 ^ 10:=Nat.pow_le_pow_right (by decide) ha
  omega
 dsimp! only [bE,cQ]
 refine fun p hp=>?_
 refine cP (S:=⟨none,numbered (t.parts.map Pt.toU)⟩) (M1:=mup M p (.lst [.tup []])) (fun R r=>?_)
  (fun i τ Mi=>∃ b c,τ=[some t.toU,some (.ref p),b,c]/\Mi=mup M p (.lst (([] :: gL 0 (t.parts.take i)).map aU))) ⟨none,none,rfl,rfl⟩ nk ?_ ?_
 ·obtain ⟨z,rr,e,e1,e2,e3⟩:=wM t
  refine ⟨z,rr,!t.leafy,by rw [<- e];rfl,e1,by omega,?_⟩
  cases hl:t.leafy with
  | true=>simp only [hl,Bool.not_true,Bool.false_eq_true,if_false];rw [HV hl] at r;exact r
  | false=>simp only [hl,Bool.not_false,if_true];rw [e2 hl];exact r
 ·rintro i x τ Mi e ⟨b,c,rfl,rfl⟩
  obtain ⟨u,hu,rfl⟩:=iY e
  rw [List.getElem?_map] at hu
  cases hp':t.parts[i]? with
  | none=>rw [hp'] at hu;cases hu
  | some a =>
   rw [hp'] at hu
   cases hu
   have ha:=Lf hp'
   have hin:gL 0 (t.parts.take (i + 1))=gL 0 (t.parts.take i)++a.places.map (i :: ·):=by
    have hlt:=(List.getElem?_eq_some_iff.mp hp').1
    rw [List.take_add_one,hp']
    have:=G5 (t.parts.take i) a 0
    rw [List.length_take,Nat.min_eq_left (Nat.le_of_lt hlt),Nat.zero_add] at this
    exact this
   have hb1:=hbig a (by omega)
   dsimp! only [bE,cQ]
   refine ⟨eN,eI (S:=⟨none,a.places.map aU⟩) (M1:=mup M p (MO.lst (aU [] :: List.map aU (gL 0 (List.take i t.parts))))) (a.places.map fun pl=>aU (i :: pl)) (fun R r'=>⟨a,rfl,by omega,by omega,r'⟩) (by simp) ?_ (fun a e=>by cases e) ?_ ?_⟩
   ·show (a.places.map aU).length<=sizeLine
    rw [List.length_map]
    exact small (by omega)
   ·intro j x y hx hy M' _ R r'
    have hx':(a.places.map aU)[j]?=some x:=hx
    rw [List.getElem?_map] at hx' hy
    cases hpl:a.places[j]? with
    | none=>rw [hpl] at hx';cases hx'
    | some pl =>
     rw [hpl] at hx' hy
     cases hx'
     cases hy
     have h1:=lP a pl (List.mem_of_getElem? hpl)
     dsimp! only [aU,bE,cQ]
     refine ⟨small ?_,?_⟩
     ·simp only [List.length_cons,List.length_nil,List.length_map];omega
     ·simpa [aU] using r'
   ·have h1:=L4 t i
    have h2:=hbig t (by omega)
    dsimp! only [bE,cQ]
    refine ⟨small ?_,_,_,rfl,?_⟩
    ·simp only [List.length_map];omega
    ·rw [hin,List.map_append,List.map_map];rfl
 ·rintro τ Mi ⟨b,c,rfl,rfl⟩
  rw [iW,List.length_map,List.take_length,<- places_eq]
  dsimp! only [bE,cQ]
  exact ⟨_,M,(Sub.refl M).mup hp,.inr ⟨p,_,rfl,aI,hp,rfl⟩,q⟩
theorem AN (F:cW K "places_of" "places_of" j7 f fd) (hm:mg "places_of"=some (.ref f)) (bH:mg "enumerate"=none) (cY:Callee P w K mg base 1 "parts_of" iA []):∀ n,Callee P w K mg base (n + 1) "places_of" (qX n) []
 | 0=>by
  have no:∀ us M Q,¬ qX 0 us M Q:=fun us M Q h=>by
   obtain ⟨p,_,h,_⟩:=h
   have:=nY p
   omega
  refine ⟨f,fd,["shape"],[],[],⟨fun vs H Q E h=>?_,fun A outer s H args us vs Q E _ _ _ _ h=>?_⟩,hm,F.kp,F.binds (nB fun _ _ _ _ _ _ _=>rfl),.nil,fun H M=>.nil⟩
  ·obtain ⟨us,M,Q',_,_,h,_⟩:=h;exact absurd h (no us M Q')
  ·obtain ⟨us,M,Q',_,_,h,_⟩:=h;exact absurd h (no us M Q')
 | n + 1=>Dt F hm bH cY (AN F hm bH cY n)
noncomputable def j3:U->Nat->Option U
 | .tup (.str z :: r),k=>if (e8 jE z).isSome then (if r.length<=1000 then r[k]? else none) else none
 | _,_=>none
noncomputable def j4:U->List Nat->Option U
 | u,[]=>some u
 | u,k :: pl=>(j3 u k).bind fun v=>j4 v pl
theorem MH {h w:U} {k:Nat} (e:j3 h k=some w):∃ z r,h=.tup (.str z :: r)/\(e8 jE z).isSome=true/\r.length<=1000/\r[k]?=some w:=by
 match h,e with
 | .tup (.str z :: r),e =>
  simp only [j3] at e
  split at e
  ·rename_i h1
   split at e
   ·rename_i h2
    exact ⟨z,r,rfl,h1,h2,e⟩
   ·cases e
  ·cases e
 | .tup [],e=>cases e
 | .tup (.non :: _),e=>cases e
 | .tup (.bl _ :: _),e=>cases e
 | .tup (.int _ :: _),e=>cases e
 | .tup (.ty _ :: _),e=>cases e
 | .tup (.ref _ :: _),e=>cases e
 | .tup (.tup _ :: _),e=>cases e
 | .tup (.lst _ :: _),e=>cases e
 | .non,e=>cases e
 | .bl _,e=>cases e
 | .int _,e=>cases e
 | .str _,e=>cases e
 | .ty _,e=>cases e
 | .ref _,e=>cases e
 | .lst _,e=>cases e
theorem EL:∀ (l:List Nat) (u:U) (k:Nat),j4 u (l++[k])=(j4 u l).bind fun v=>j3 v k
 | [],u,k=>by simp only [List.nil_append,j4,Option.bind_some];cases j3 u k <;> rfl
 | j :: l,u,k=>by
  simp only [List.cons_append,j4]
  cases j3 u j with
  | none=>rfl
  | some v=>exact EL l v k
theorem Dl:∀ (l r:List Nat) (u:U),j4 u l=none->j4 u (l++r)=none
 | [],r,u,z=>by cases z
 | j :: l,r,u,z=>by
  simp only [List.cons_append,j4] at z ⊢
  cases hj:j3 u j with
  | none=>rfl
  | some v=>rw [hj] at z;exact Dl l r v z
noncomputable def AG:c8:=fun us M Q=>∃ (u v:U) (pl:List Nat),us=[u,aU pl]/\j4 u pl=some v/\Q v M
theorem E8 (F:cW K "shape_at" "shape_at" uH f fd) (hm:mg "shape_at"=some (.ref f)) (cY:Callee P w K mg base 1 "parts_of" iA []):Callee P w K mg base 2 "shape_at" AG []:=by
 refine bF F hm oO (kP fun _ _ _ _ _ _ _ _=>rfl) (aD (aO 2 oO.nd (uv 0))
 (aD (cS (c9 (uv 1)) (aN (k:=1000) 3 oO.nd)
 (aE (aO 2 oO.nd (aG (aR cY (aA (uv 2) aB)) (uv 3)))))
 (aE (aV (uv 2))))) ?_
 rintro us M Q ⟨u,v,pl,rfl,hpl,q⟩
 refine ⟨rfl,?_⟩
 dsimp! only [bE,cQ]
 refine cP (S:=⟨none,pl.map fun (n:Nat)=>U.int (n:Int)⟩) (M1:=M) (fun R r=>r)
  (fun i τ Mi=>∃ (h:U) (c:Option U),τ=[some u,some (aU pl),some h,c]/\Mi=M/\j4 u (pl.take i)=some h) ⟨u,none,rfl,rfl,rfl⟩ nk ?_ ?_
 ·rintro i x τ Mi e ⟨h,c,rfl,rfl,hh⟩
  have e':(pl.map fun (n:Nat)=>U.int (n:Int))[i]?=some x:=e
  rw [List.getElem?_map] at e'
  cases hk:pl[i]? with
  | none=>rw [hk] at e';cases e'
  | some k =>
   rw [hk] at e'
   cases e'
   have hnx:j4 u (pl.take (i + 1))=j3 h k:=by
    rw [List.take_add_one,hk]
    show j4 u (pl.take i++[k])=_
    rw [EL,hh];rfl
   cases hs:j3 h k with
   | none =>
    rw [hs] at hnx
    have:=Dl (pl.take (i + 1)) (pl.drop (i + 1)) u hnx
    rw [List.take_append_drop,hpl] at this
    cases this
   | some w' =>
    rw [hs] at hnx
    obtain ⟨z,r,rfl,hz,hr,hs'⟩:=MH hs
    dsimp! only [bE,cQ]
    refine ⟨z,r,true,rfl,hz,hr,?_⟩
    dsimp! only [bE,cQ]
    exact ⟨w',fP hs',w',_,rfl,hnx⟩
 ·rintro τ Mi ⟨h,c,rfl,rfl,hh⟩
  simp only [List.length_map,List.take_length] at hh
  rw [hpl] at hh
  cases hh
  dsimp! only [bE,cQ]
  exact aS q
theorem Im (F:cW K "tree_at" "tree_at" xR f fd) (hm:mg "tree_at"=some (.ref f)) (vD:Callee P w K mg base 2 "shape_at" AG []):Callee P w K mg base 3 "tree_at" AG []:=by
 refine bF F hm Hb (kP fun _ _ _ _ _ _ _ _=>rfl) (aE (aV (aR vD (aA (uv 0) (aA (uv 1) aB))))) ?_
 rintro us M Q ⟨u,v,pl,rfl,hpl,q⟩
 refine ⟨rfl,?_⟩
 dsimp! only [bE,cQ]
 exact ⟨u,v,pl,rfl,hpl,aS q⟩
theorem By (a:U):j3 (.tup [.str (Str.ofString "turn"),a]) 0=some a:=by
 simp only [j3];rw [if_pos p9,if_pos (by simp)];rfl
theorem Bj (o:Op) (a b:U):j3 (.tup [.str o.word,a,b]) 0=some a:=by
 simp only [j3];rw [if_pos (qD o),if_pos (by simp)];rfl
theorem Bh (o:Op) (a b:U):j3 (.tup [.str o.word,a,b]) 1=some b:=by
 simp only [j3];rw [if_pos (qD o),if_pos (by simp)];rfl
theorem yO:∀ (p:Pt) (pre:List Nat) (e:List Nat × Pt),e∈cO p pre->∃ s,e.1=pre++s/\j4 p.toU s=some e.2.toU
 | .turn a,pre,e,h=>by
  simp only [cO] at h
  rcases List.mem_cons.mp h with rfl | h
  ·exact ⟨[],by simp,rfl⟩
  ·obtain ⟨s,h1,h2⟩:=yO a _ e h
   refine ⟨0 :: s,by rw [h1];simp,?_⟩
   simp only [j4,Pt.toU,By,Option.bind_some,h2]
 | .two o a b,pre,e,h=>by
  simp only [cO] at h
  rcases List.mem_cons.mp h with rfl | h
  ·exact ⟨[],by simp,rfl⟩
  ·rcases List.mem_append.mp h with h | h
   ·obtain ⟨s,h1,h2⟩:=yO a _ e h
    refine ⟨0 :: s,by rw [h1];simp,?_⟩
    simp only [j4,Pt.toU,Bj,Option.bind_some,h2]
   ·obtain ⟨s,h1,h2⟩:=yO b _ e h
    refine ⟨1 :: s,by rw [h1];simp,?_⟩
    simp only [j4,Pt.toU,Bh,Option.bind_some,h2]
 | .hole _,pre,e,h=>by cases List.mem_singleton.mp h;exact ⟨[],by simp,rfl⟩
 | .any,pre,e,h=>by cases List.mem_singleton.mp h;exact ⟨[],by simp,rfl⟩
 | .fr _ _,pre,e,h=>by cases List.mem_singleton.mp h;exact ⟨[],by simp,rfl⟩
noncomputable def An (e:List Nat × Pt):Bool:=decide (e.2.holes=0)
noncomputable def fU:U->Option U
 | .tup [a,.tup (.str z :: r)]=>if (!decide (z=Str.ofString "at")) && !(e8 jE z).isSome then some (.tup [a,.tup (.str z :: r)]) else none
 | _=>none
theorem Tp (e:List Nat × Pt):fU (cM e)=if e.2.leafy && An e then some (cM e) else none:=by
 obtain ⟨pl,q⟩:=e
 have e1:decide (Str.ofString "at"=Str.ofString "at")=true:=by simp
 cases q with
 | hole c=>simp only [cM,Pt.toU,fU,e1,Pt.leafy,An,Pt.holes];rfl
 | any=>simp only [cM,Pt.toU,fU,bY,bT,bZ,b5,bX,b7,bU,Nw,Pt.leafy,An,Pt.holes];rfl
 | fr l h=>simp only [cM,Pt.toU,fU,bY,bT,bZ,b5,bX,b7,bU,KH,Pt.leafy,An,Pt.holes];rfl
 | turn a=>simp only [cM,Pt.toU,fU,bY,bT,bZ,b5,bX,b7,bU,p9,Pt.leafy];rfl
 | two o a b=>simp only [cM,Pt.toU,fU,bY,bT,bZ,b5,bX,b7,bU,qD,Pt.leafy];rfl
noncomputable def hF (e:List Nat × Pt):Option (List Nat × Str):=match e.2 with
 | .hole c=>some (e.1,c)
 | _=>none
noncomputable def jK (e:List Nat × Str):U:=.tup [aU e.1,.str e.2]
noncomputable def jD (p:Pt):List (List Nat × Str):=(cO p []).filterMap hF
noncomputable def hU:U->Option U
 | .tup [a,.tup (.str z :: r)]=>if decide (z=Str.ofString "at") then (r.head?).map fun c=>.tup [a,c] else none
 | _=>none
theorem JF (e:List Nat × Pt):hU (cM e)=(hF e).map jK:=by
 obtain ⟨pl,q⟩:=e
 have e1:decide (Str.ofString "at"=Str.ofString "at")=true:=by simp
 cases q with
 | hole c=>simp only [cM,Pt.toU,hU,e1,hF,jK];rfl
 | any=>simp only [cM,Pt.toU,hU,bY,bT,bZ,b5,bX,b7,bU,hF];rfl
 | fr l h=>simp only [cM,Pt.toU,hU,bY,bT,bZ,b5,bX,b7,bU,hF];rfl
 | turn a=>simp only [cM,Pt.toU,hU,bY,bT,bZ,b5,bX,b7,bU,hF];rfl
 | two o a b=>simp only [cM,Pt.toU,hU,bY,bT,bZ,b5,bX,b7,bU,hF];rfl
theorem QS (l:List (List Nat × Pt)):(l.map cM).filterMap hU=(l.filterMap hF).map jK:=by
 induction l with
 | nil=>rfl
 | cons e l ih =>
  rw [List.map_cons,List.filterMap_cons,List.filterMap_cons,JF,ih]
  cases hF e <;> rfl
noncomputable def FP:c8:=fun us M Q=>∃ p:Pt,us=[p.toU]/\p.dep<=6/\Q (.lst ((jD p).map jK)) M
theorem L0 (F:cW K "holes" "holes" BA f fd) (hm:mg "holes"=some (.ref f)) (jG:Callee P w K mg base 7 "places_of" (qX 6) []) (vD:Callee P w K mg base 2 "shape_at" AG []):Callee P w K mg base 8 "holes" FP []:=by
 refine bF F hm D8 (nB fun _ _ _ _ _ _ _=>rfl) (aD (p8 1 D8.nd false ["place","pattern"] 1 [0] (c9 (aR jG (aA (uv 0) aB))) (aN (k:=1) 0 (by dsimp only [cJ];decide +kernel)) iS (aY (aA (uv 0) (aA (aR vD (aA (uv 1) (aA (uv 0) aB))) aB))))
 (aE (aV (jR false ["place","piece"] 2 [] (c9 (uv 1)) (eJ (n:=2) (bB (aN (k:=2) 0 (by dsimp only [cJ];decide +kernel)) (bB (aN (k:=2) 1 (by dsimp only [cJ];decide +kernel)) dH))) (yQ (b8 c7 (aG (uv 1) aF) cR)) (aY (aA (uv 0) (aA (aG (uv 1) aF) aB))))))) ?_
 rintro us M Q ⟨p,rfl,hd,q⟩
 refine ⟨rfl,?_⟩
 have hsp:(cO p []).map (·.1)=p.places:=by rw [j5];simp
 have hpl:p.places.length<=64:=by
  have h1:=places_len p
  have h2:2 ^ p.dep<=2 ^ 6:=Nat.pow_le_pow_right (by decide) hd
  omega
 have hsl:(cO p []).length=p.places.length:=by rw [<- hsp,List.length_map]
 dsimp! only [bE,cQ,aX,cG,aZ]
 refine eI (S:=⟨none,p.places.map aU⟩) (M1:=M) ((cO p []).map cM) (fun R r=>⟨p,rfl,hd,by decide,r⟩) (by simp [hsl]) (small (by show (p.places.map aU).length<=_;rw [List.length_map];omega)) (fun a e=>by cases e) ?_ ?_
 ·intro j x y hx hy M' _ R r'
  have hx':(p.places.map aU)[j]?=some x:=hx
  rw [<- hsp,List.map_map,List.getElem?_map] at hx'
  rw [List.getElem?_map] at hy
  cases hj:(cO p [])[j]? with
  | none=>rw [hj] at hy;cases hy
  | some e =>
   rw [hj] at hx' hy
   cases hx'
   cases hy
   obtain ⟨s,h1,h2⟩:=yO p [] e (List.mem_of_getElem? hj)
   rw [List.nil_append] at h1
   dsimp! only [bE,cQ,aX,cG,aZ]
   refine ⟨p.toU,e.2.toU,e.1,rfl,by rw [h1];exact h2,?_⟩
   dsimp! only [bE,cQ,aX,cG,aZ]
   exact r'
 ·dsimp! only [bE,cQ,aX,cG,aZ]
  refine AA (S:=⟨none,(cO p []).map cM⟩) (M1:=M) hU (fun R r=>r) (small (by show ((cO p []).map cM).length<=_;rw [List.length_map];omega)) (fun a e=>by cases e) ?_ ?_
  ·intro x hx M' _ R r
   obtain ⟨e,he,rfl⟩:=List.mem_map.mp hx
   rw [JF] at r
   obtain ⟨pl,pt⟩:=e
   cases pt with
   | hole c=>dsimp! only [cM,hF,jK,Pt.toU,bY,bT,bZ,b5,bX,b7,bU,Option.map_some,bE,cQ,aX,cG,aZ] at r ⊢;exact r
   | any=>dsimp! only [cM,hF,jK,Pt.toU,bY,bT,bZ,b5,bX,b7,bU,Option.map_none,bE,cQ,aX,cG,aZ] at r ⊢;exact r
   | fr l h=>dsimp! only [cM,hF,jK,Pt.toU,bY,bT,bZ,b5,bX,b7,bU,Option.map_none,bE,cQ,aX,cG,aZ] at r ⊢;exact r
   | turn a=>dsimp! only [cM,hF,jK,Pt.toU,bY,bT,bZ,b5,bX,b7,bU,Option.map_none,bE,cQ,aX,cG,aZ] at r ⊢;exact r
   | two o a b=>dsimp! only [cM,hF,jK,Pt.toU,bY,bT,bZ,b5,bX,b7,bU,Option.map_none,bE,cQ,aX,cG,aZ] at r ⊢;exact r
  ·rw [show (Src.mk none ((cO p []).map cM)).xs=(cO p []).map cM from rfl,QS]
   simp only [jL]
   exact aS q
noncomputable def bS:Pt->Tr->List (Tr × Str)
 | .hole c,t=>[(t,c)]
 | .turn p,.turn a=>bS p a
 | .two _ p q,.two _ a b=>bS p a++bS q b
 | _,_=>[]
theorem qA:∀ (p:Pt) (t:Tr) (pre:List Nat),bP p t=true->((cO p pre).filterMap hF).length=(bS p t).length/\∀ (i:Nat) (e:List Nat × Str),((cO p pre).filterMap hF)[i]?=some e->∃ s t',e.1=pre++s/\j4 t.toU s=some t'.toU/\(bS p t)[i]?=some (t',e.2)
 | .hole c,t,pre,_=>⟨by cases t <;> rfl,fun i e h=>by
   match i,h with
   | 0,h=>cases h;exact ⟨[],t,by simp,rfl,by cases t <;> rfl⟩
   | i + 1,h=>cases h⟩
 | .any,.name x,pre,_=>⟨rfl,fun i e h=>by cases h⟩
 | .fr l h,.num n,pre,_=>⟨rfl,fun i e h=>by cases h⟩
 | .turn p,.turn a,pre,hl=>by
  obtain ⟨h1,h2⟩:=qA p a (pre++[0]) hl
  refine ⟨by simp only [cO,List.filterMap_cons,hF,bS];exact h1,fun i e he=>?_⟩
  simp only [cO,List.filterMap_cons,hF] at he
  obtain ⟨s,t',e1,e2,e3⟩:=h2 i e he
  refine ⟨0 :: s,t',by rw [e1];simp,?_,e3⟩
  simp only [j4,Tr.toU,By,Option.bind_some,e2]
 | .two o p q,.two o' a b,pre,hl=>by
  simp only [bP,Bool.and_eq_true] at hl
  obtain ⟨ho,hl1,hl2⟩:=hl
  obtain ⟨h1,h2⟩:=qA p a (pre++[0]) hl1
  obtain ⟨k1,k2⟩:=qA q b (pre++[1]) hl2
  simp only [cO,List.filterMap_cons,hF,List.filterMap_append,bS,List.length_append]
  refine ⟨by omega,fun i e he=>?_⟩
  rw [List.getElem?_append] at he
  split at he
  ·rename_i hi
   obtain ⟨s,t',e1,e2,e3⟩:=h2 i e he
   refine ⟨0 :: s,t',by rw [e1];simp,?_,by rw [List.getElem?_append_left (by omega)];exact e3⟩
   simp only [j4,Tr.toU,Bj,Option.bind_some,e2]
  ·rename_i hi
   obtain ⟨s,t',e1,e2,e3⟩:=k2 _ e he
   refine ⟨1 :: s,t',by rw [e1];simp,?_,by rw [List.getElem?_append_right (by omega),<- h1];exact e3⟩
   simp only [j4,Tr.toU,Bh,Option.bind_some,e2]
 | .any,.num _,_,h=>by cases h
 | .any,.turn _,_,h=>by cases h
 | .any,.two _ _ _,_,h=>by cases h
 | .fr _ _,.name _,_,h=>by cases h
 | .fr _ _,.turn _,_,h=>by cases h
 | .fr _ _,.two _ _ _,_,h=>by cases h
 | .turn _,.num _,_,h=>by cases h
 | .turn _,.name _,_,h=>by cases h
 | .turn _,.two _ _ _,_,h=>by cases h
 | .two _ _ _,.num _,_,h=>by cases h
 | .two _ _ _,.name _,_,h=>by cases h
 | .two _ _ _,.turn _,_,h=>by cases h
structure Tl where
 name:Str
 cls:Str
 pt:Pt
 cost:Int
noncomputable def Tl.toU (t:Tl):U:=.tup [.str t.name,.str t.cls,t.pt.toU,.int t.cost]
noncomputable def Tl.pass (t:Tl):Bool:=match t.pt with
 | .hole _=>true
 | _=>false
structure Wt where
 t:Tr
 c:Str
 ps:List Str
noncomputable def EH (tl:Tl) (w:Wt):List Str:=if tl.pass then w.ps++[tl.cls] else []
noncomputable def below (tl:Tl) (w:Wt):List Wt:=(bS tl.pt w.t).map fun x=>⟨x.1,x.2,EH tl w⟩
noncomputable def DC:c8:=fun us M Q=>∃ tl:Tl,us=[tl.toU]/\Q (.bl tl.pass) M
theorem Ii (F:cW K "is_pass" "is_pass" wZ f fd) (hm:mg "is_pass"=some (.ref f)):Callee P w K mg base 1 "is_pass" DC []:=by
 refine bF F hm Hr (nB fun _ _ _ _ _ _ _=>rfl) (aE (aV (xB c7 (aG (aG (uv 0) aF) aF) cR))) ?_
 rintro us M Q ⟨tl,rfl,q⟩
 refine ⟨rfl,?_⟩
 obtain ⟨nm,cl,pt,co⟩:=tl
 cases pt <;> (dsimp! only [Tl.toU,Tl.pass,Pt.toU,bY,bT,bZ,b5,bX,b7,bU,bE,cQ,aX,cG,aZ] at q ⊢;exact aS q)
theorem Gi (p:Pt) (h:p.dep<=6):(jD p).length<=64:=by
 have h1:=places_len p
 have h2:2 ^ p.dep<=2 ^ 6:=Nat.pow_le_pow_right (by decide) h
 have h3:(cO p []).length=p.places.length:=by rw [<- List.length_map (f:=(·.1)),j5];simp
 have h4:(jD p).length<=(cO p []).length:=List.length_filterMap_le _ _
 omega
noncomputable def C7 (tiles:List Tl) (n:Int):List Wt->Option (List Wt)
 | []=>none
 | w :: st=>if 0<=n/\n < tiles.length then
   match tiles[n.toNat]? with
   | some tl=>if tl.cls=w.c/\tl.cls ∉ w.ps/\bP tl.pt w.t=true then some (below tl w++st) else none
   | none=>none
  else none
theorem nP (ss:List Str) (z:Str):((ss.map U.str).any fun u=>zO u (.str z))=decide (z∈ss):=by
 induction ss with
 | nil=>rfl
 | cons a r ih =>
  rw [List.map_cons,List.any_cons,ih]
  have:zO (.str a) (.str z)=decide (z=a):=by
   show (a == z)=_
   by_cases h:z=a
   ·subst h;simp
   ·have k:¬ a=z:=fun k=>h k.symm
    simp [h,k]
  rw [this]
  by_cases h:z=a
  ·subst h;simp
  ·simp [h]
theorem xT (ss:List Str):(ss.map U.str).all jN=true:=by
 induction ss with
 | nil=>rfl
 | cons a r ih=>rw [List.map_cons,List.all_cons,ih];rfl
theorem iZ {M:aH} {t:Tl}:view M t.toU=.tup [.str t.name,.str t.cls,t.pt.toU,.int t.cost]:=rfl
noncomputable def fD (cs:List Str) (tiles:List Tl):U:=.tup [iV cs,.tup (tiles.map Tl.toU)]
theorem jP {M:aH} {cs:List Str} {tiles:List Tl}:view M (fD cs tiles)=.tup [iV cs,.tup (tiles.map Tl.toU)]:=rfl
theorem Du (B:Nat):∀ ns:List Int,(∀ n∈ns,0<=n/\n<=B)->0<=ns.sum/\ns.sum<=B * ns.length
 | [],_=>by simp
 | n :: ns,h=>by
  obtain ⟨h1,h2⟩:=h n List.mem_cons_self
  obtain ⟨h3,h4⟩:=Du B ns fun x hx=>h x (List.mem_cons_of_mem _ hx)
  rw [List.sum_cons,List.length_cons]
  have e:(B:Int) * ((ns.length + 1:Nat):Int)=B * ns.length + B:=by
   rw [Int.natCast_add,Int.mul_add];simp
  rw [e]
  exact ⟨by omega,by omega⟩
theorem fits_of {ns:List Int} (h:∀ n∈ns,0<=n/\n<=1000000) (hl:ns.length<=2000):PySem.SumFits ns:=by
 intro j hj
 have hm:ns.getD j 0∈ns:=by
  rw [List.getD_eq_getElem?_getD,List.getElem?_eq_getElem hj];exact List.getElem_mem hj
 obtain ⟨h1,h2⟩:=h _ hm
 obtain ⟨h3,h4⟩:=Du 1000000 (ns.take (j + 1)) fun x hx=>h x (List.mem_of_mem_take hx)
 have h5:(ns.take (j + 1)).length<=2000:=by rw [List.length_take];omega
 have h6:((1000000:Nat):Int) * ((ns.take (j + 1)).length:Int)<=2000000000:=by omega
 constructor <;> (unfold InLong;constructor <;> omega)
theorem pV (ns:List Int):intsOf (ns.map U.int)=some ns:=by
 induction ns with
 | nil=>rfl
 | cons a r ih=>simp only [List.map_cons,intsOf,ih,Option.map_some]
noncomputable def yA (ks:List Int):U:=.lst (ks.map U.int)
noncomputable def Qm (tiles:List Tl) (ks:List Int):Prop:=∀ k∈ks,0<=k/\k < tiles.length
noncomputable def Dc:c8:=fun us M Q=>∃ k c:Int,us=[.int k,.int c]/\0<=k/\k < 26/\∀ z:Str,PyData.strOk z=true->z.length<=8->Q (.str z) M
local macro_rules | `(tactic| dsimp? only [$xs,*] $[$l]?) => `(tactic| dsimp! only [$xs,*, cQ, fB, aX, fC, cG, aZ, bE, dF] $[$l]?)
theorem Ov (F:cW K "_law_word" "_law_word" uG f fd) (hm:mg "_law_word"=some (.ref f)):Callee P w K mg base 1 "_law_word" Dc []:=by
 refine bF F hm yZ (kP fun _ _ _ _ _ _ _ _=>rfl) (aD (aO 2 yZ.nd cR)
 (aE (aV (bL (own:=false) (bL (own:=false) (aG (uv 2) (dU (uv 0) aF)) (aG (uv 2) (bO (uv 0) aF))) (gH (own:=false) (aG (uv 2) (bO (uv 1) aF)) (bO (dU (uv 1) aF) aF)))))) ?_
 rintro us M Q ⟨k,c,rfl,hk0,hk1,q⟩
 refine ⟨rfl,?_⟩
 have hL:wU.cps.toList.length=26:=by decide +kernel
 have hL2:(wU.length<=sizeLine):=by decide +kernel
 have hA:PyData.strOk wU=true:=by decide +kernel
 have lt:∀ m:Int,∃ c,cK wU.cps.toList (m % 26)=some c:=fun m=>kS wU.cps.toList (m % 26) (Int.emod_nonneg _ (by decide)) (by rw [hL];exact Int.emod_lt_of_pos _ (by decide))
 dsimp? only [true_and]
 obtain ⟨x,hx⟩:=kS wU.cps.toList (k / 26) (by omega) (by rw [hL];omega)
 obtain ⟨y,hy⟩:=lt k
 obtain ⟨u,hu⟩:=lt c
 have n0:=Int.emod_nonneg (c / 26) (show (6:Int)≠0 by decide)
 have n1:=Int.emod_lt_of_pos (c / 26) (show (0:Int) < 6 by decide)
 have l1:(⟨#[x]⟩:Str).length=1:=rfl
 have l2:(⟨#[y]⟩:Str).length=1:=rfl
 have l0:(⟨#[u]⟩:Str).length=1:=rfl
 have l3:=Gp ⟨#[u]⟩ (c / 26 % 6)
 rw [l0] at l3
 have l4:((⟨#[x]⟩:Str)++(⟨#[y]⟩:Str)).length=2:=by rw [len_app,l1,l2]
 refine ⟨⟨by decide,by decide⟩,hL2,x,hx,by decide,hL2,y,hy,small (by rw [l1,l2];decide),by decide,hL2,u,hu,⟨by decide,by decide⟩,by decide,by omega,by omega,by rw [l0];decide,by rw [l0];omega,small (by rw [l4];omega),aS (q _ (xK (xK (yC hA hx) (yC hA hy)) (BX (yC hA hu) _)) ?_)⟩
 rw [len_app,l4];omega
noncomputable def EW:c8:=fun us M Q=>∃ (es:List (List Nat × Pt)) (s:Int),us=[.lst (es.map cM),.int s]/\es.length<=1000/\(∀ e∈es,e.2.leafy=true/\e.2.ok)/\∀ (bs:List U) (p:Addr),M p=none->jT (es.map (·.2)) bs->Q (.ref p) (mup M p (.lst bs))
theorem JB (F:cW K "_law_borne" "_law_borne" sF f fd) (hm:mg "_law_borne"=some (.ref f)) (bH:mg "enumerate"=none) (Hl:Callee P w K mg base 1 "_law_name" K9 []) (oA:Callee P w K mg base 1 "_law_mixed" BN []) (oG:Callee P w K mg base 1 "_law_great" tS []):Callee P w K mg base 2 "_law_borne" EW []:=by
 refine bF F hm kT (kP fun _ _ _ _ _ _ _ _=>rfl) (aD (aO 2 kT.nd (cX (own:=true) aB))
 (aD (cS (CL bH (aA (uv 0) aB)) (eJ (n:=2) (bB (aN (k:=1000) 3 kT.nd) (bB (eJ (n:=2) (bB (aN (k:=1000) 4 kT.nd) (bB (aN (k:=1000) 5 kT.nd) dH))) dH)))
 (aD (b6 (b8 c7 (aG (uv 5) aF) cR)
 (aE (e6 (eM (uv 2) (aA (aR Hl (aA (aR oA (aA (uv 1) (aA (uv 3) aB))) aB)) aB))))
 bI)
 (aE (b6 (b8 c7 (aG (uv 5) aF) cR)
 (aE (e6 (eM (uv 2) (aA (bL (own:=false) (aG (uv 5) aF) (bO (aR oG (aA (aR oA (aA (uv 1) (aA (uv 3) aB))) aB)) (bL (own:=false) (oT (aG (uv 5) aF) (aG (uv 5) aF)) aF))) aB))))
 bI))))
 (aE (aV (uv 2))))) ?_
 rintro us M Q ⟨es,s,rfl,hl,hes,q⟩
 refine ⟨rfl,?_⟩
 dsimp! only [true_and]
 intro p hp
 refine cP (S:=⟨none,numbered (es.map cM)⟩) (M1:=mup M p (.lst [])) (fun R r=>r)
  (fun i τ Mi=>∃ (bs:List U) (a b c:Option U),τ=[some (.lst (es.map cM)),some (.int s),some (.ref p),a,b,c]/\Mi=mup M p (.lst bs)/\jT ((es.take i).map (·.2)) bs/\bs.length<=i) ⟨[],none,none,none,rfl,rfl,rfl,by simp⟩ nk ?_ ?_
 ·rintro i x τ Mi e ⟨bs,a,b,c,rfl,rfl,hb,hbl⟩
  obtain ⟨u,hu,rfl⟩:=iY e
  rw [List.getElem?_map] at hu
  cases hk:es[i]? with
  | none=>rw [hk] at hu;cases hu
  | some ee =>
   rw [hk] at hu
   cases hu
   obtain ⟨pl,pt⟩:=ee
   obtain ⟨g1,g2⟩:=hes _ (List.mem_of_getElem? hk)
   have hi:i < es.length:=(List.getElem?_eq_some_iff.mp hk).1
   have htk:(es.take (i + 1)).map (·.2)=(es.take i).map (·.2)++[pt]:=by
    rw [List.take_add_one,hk];simp
   rw [htk]
   have hbig:bs.length < sizeLine:=big (by omega)
   cases pt with
   | hole cc =>
    dsimp! only [cM,Pt.toU,bY,bT,bZ,b5,bX,b7,bU]
    exact ⟨bs,_,_,_,rfl,rfl,by have:=nV hb (show jT [.hole cc] [] from rfl);simpa using this,by omega⟩
   | any =>
    dsimp! only [cM,Pt.toU,bY,bT,bZ,b5,bX,b7,bU]
    refine ⟨eN,s,_,rfl,by omega,by omega,fun n hn=>⟨n,rfl,fun z h1 h2=>?_⟩⟩
    dsimp! only [true_and]
    exact ⟨hbig,bs++[.str z],_,_,_,rfl,rfl,nV hb ⟨z,[],rfl,h1,h2,rfl⟩,by simp;omega⟩
   | fr lo hi =>
    have hlh:0<=lo/\lo<=hi:=g2
    dsimp! only [cM,Pt.toU,bY,bT,bZ,b5,bX,b7,bU]
    refine ⟨eN,s,_,rfl,by omega,by omega,fun n hn=>⟨n,rfl,fun m h1 h2=>?_⟩⟩
    dsimp! only [true_and]
    have r1:=Int.emod_nonneg m (show hi - lo + 1≠0 by omega)
    have r2:=Int.emod_lt_of_pos m (show 0 < hi - lo + 1 by omega)
    exact ⟨by omega,hbig,bs++[.int (lo + m % (hi - lo + 1))],_,_,_,rfl,rfl,nV hb ⟨_,[],rfl,by omega,by omega,rfl⟩,by simp;omega⟩
   | turn a=>cases g1
   | two o a b=>cases g1
 ·rintro τ Mi ⟨bs,a,b,c,rfl,rfl,hb,hbl⟩
  rw [iW,List.length_map,List.take_length] at hb
  dsimp! only [true_and]
  exact aS (q bs p hp hb)
noncomputable def hT (p:Pt) (t:Tr):List Tr:=(bS p t).map (·.1)
theorem Je {o o':Op} {a d:Pt} {r r':Tr}:hT (.two o a d) (.two o' r r')=hT a r++hT d r':=by simp [hT,bS]
noncomputable def gE:Pt->Option Str
 | .hole c=>some c
 | _=>none
noncomputable def bQ (p:Pt):List Str:=p.ends.filterMap gE
theorem oY:∀ (p:Pt) (t:Tr),bP p t=true->(bS p t).map (·.2)=bQ p
 | .hole c,t,_=>by cases t <;> rfl
 | .any,.name x,_=>rfl
 | .fr l h,.num n,_=>rfl
 | .turn p,.turn a,h=>oY p a h
 | .two o p q,.two o' a b,h=>by
  simp only [bP,Bool.and_eq_true] at h
  have h1:=oY p a h.2.1
  have h2:=oY q b h.2.2
  simp only [bQ] at h1 h2
  simp only [bS,bQ,Pt.ends,List.map_append,List.filterMap_append,h1,h2]
 | .any,.num _,h=>by cases h
 | .any,.turn _,h=>by cases h
 | .any,.two _ _ _,h=>by cases h
 | .fr _ _,.name _,h=>by cases h
 | .fr _ _,.turn _,h=>by cases h
 | .fr _ _,.two _ _ _,h=>by cases h
 | .turn _,.num _,h=>by cases h
 | .turn _,.name _,h=>by cases h
 | .turn _,.two _ _ _,h=>by cases h
 | .two _ _ _,.num _,h=>by cases h
 | .two _ _ _,.name _,h=>by cases h
 | .two _ _ _,.turn _,h=>by cases h
noncomputable def tT (n:Nat):c8:=fun us M Q=>∃ (N:Nat) (p:Pt) (b t:Addr) (bs rb rt:List U) (ts:List Tr),us=[p.toU,.ref b,.ref t]/\p.dep<=n/\b≠t/\M b=some (.lst (bs++rb))/\M t=some (.lst (ts.map Tr.toU++rt))/\jT p.ends bs/\ts.length=p.holes/\(∀ x∈ts,x.ok/\x.dep<=N) /\
 ∀ (r:Tr) (M':aH),r.ok->r.dep<=p.dep + N->bP p r=true->(p7 p r=bs/\hT p r=ts)->M' b=some (.lst rb)->M' t=some (.lst rt)->(∀ x,x≠b->x≠t->M' x=M x)->Q r.toU M'
theorem Me {n:Nat} (F:cW K "_law_laid" "_law_laid" pT f fd) (hm:mg "_law_laid"=some (.ref f)) (j6:mg "tuple"=none) (wA:Callee P w K mg base (n + 1) "_law_laid" (tT n) []):Callee P w K mg base (n + 2) "_law_laid" (tT (n + 1)) []:=by
  refine bF F hm sM (zG fun _ _ _ _ _ _ _ _ _=>rfl) (aD (b6 (b8 c7 (aG (uv 0) aF) cR)
  (aE (aV (vS (uv 2) (aA aF aB))))
  bI)
  (aD (b6 (b8 c7 (aG (uv 0) aF) cR)
  (aE (aV (aY (aA cR (aA (vS (uv 1) (aA aF aB)) aB)))))
  bI)
  (aD (b6 (b8 c7 (aG (uv 0) aF) cR)
  (aE (aV (aY (aA cR (aA (vS (uv 1) (aA aF aB)) aB)))))
  bI)
  (aD (aO 3 sM.nd (cX (own:=true) (aA (aG (uv 0) aF) aB)))
  (aD (cS (c9 (lM (own:=false) (uv 0) (jU aF) k0)) (aN (k:=1000) 4 sM.nd)
  (aE (e6 (eM (uv 3) (aA (aR wA (aA (uv 4) (aA (uv 1) (aA (uv 2) aB)))) aB)))))
  (aE (aV (Bx BO j6 (aA (uv 3) aB))))))))) ?_
  rintro us M Q ⟨N,p,b,t,bs,rb,rt,ts,rfl,hd,hbt,hb,ht,hbo,hts,htk,q⟩
  refine ⟨rfl,?_⟩
  refine aP fun V hV=>?_
  have g1:(∀ c,p≠.hole c)->V [some p.toU,some (.ref b),some (.ref t),none,none] M:=fun p1=>by
    subst hV
    refine aP fun V hV=>?_
    have g2:p≠.any->V [some p.toU,some (.ref b),some (.ref t),none,none] M:=fun p2=>by
      subst hV
      refine aP fun V hV=>?_
      have g3:(∀ lo hi,p≠.fr lo hi)->V [some p.toU,some (.ref b),some (.ref t),none,none] M:=fun p3=>by
        subst hV
        cases p with
        | hole c=>exact absurd rfl (p1 c)
        | any=>exact absurd rfl p2
        | fr lo hi=>exact absurd rfl (p3 lo hi)
        | turn a =>
          have hda:a.dep<=n:=by simp only [Pt.dep] at hd;omega
          dsimp! only [Pt.toU,bY,bT,bZ,b5,bX,b7,bU,xQ]
          intro p0 hp0
          have nb:b≠p0:=fun z=>by subst z;rw [hp0] at hb;cases hb
          have nt:t≠p0:=fun z=>by subst z;rw [hp0] at ht;cases ht
          refine cP (S:=⟨none,[a.toU]⟩) (M1:=mup M p0 (.lst [.str (Str.ofString "turn")])) (fun R r=>by first | exact r | simpa using r)
            (fun i τ Mi=>∃ (c:Option U),τ=[some (Pt.turn a).toU,some (.ref b),some (.ref t),some (.ref p0),c]/\(∀ x,x≠p0->x≠b->x≠t->Mi x=M x) /\
              ((i=0/\Mi=mup M p0 (.lst [.str (Str.ofString "turn")]))\/(∃ r:Tr,r.ok/\r.dep<=a.dep + N/\bP a r=true/\(p7 a r=bs/\hT a r=ts)/\Mi p0=some (.lst [.str (Str.ofString "turn"),r.toU])/\Mi b=some (.lst rb)/\Mi t=some (.lst rt)/\i=1)))
            ⟨none,rfl,fun x h1 _ _=>aK h1,.inl ⟨rfl,rfl⟩⟩ nk ?_ ?_
          · rintro i x τ Mi e ⟨c,rfl,hM,hh⟩
            match i,e with
            | 0,e =>
              cases e
              rcases hh with ⟨_,rfl⟩ | ⟨_,_,_,_,_,_,_,_,z⟩
              · dsimp! only [true_and]
                refine ⟨eN,N,a,b,t,bs,rb,rt,ts,rfl,hda,hbt,by rw [aK nb];exact hb,by rw [aK nt];exact ht,hbo,hts,htk,fun r M' r1 r2 r3 r4 m1 m2 m3=>?_⟩
                have m4:M' p0=some (.lst [.str (Str.ofString "turn")]):=by rw [m3 p0 nb.symm nt.symm,aI]
                dsimp! only [m4]
                refine ⟨by decide,_,rfl,fun x h1 h2 h3=>by rw [aK h1,m3 x h2 h3,aK h1],.inr ⟨r,r1,r2,r3,r4,by first | rfl | exact aI,by rw [aK nb];exact m1,by first | exact ⟨by rw [aK nt];exact m2,rfl⟩ | (rw [aK nt];exact m2)⟩⟩
              · cases z
            | i + 1,e=>cases e
          · rintro τ Mi ⟨c,rfl,hM,hh⟩
            rcases hh with ⟨z,_⟩ | ⟨r,r1,r2,r3,r4,m0,m1,m2,_⟩
            · cases z
            · dsimp! only [gF m0]
              exact leave nb nt hp0 hM m1 m2 fun M' k1 k2 k3=>q (.turn r) M' r1 (by simp only [Tr.dep,Pt.dep];omega) r3 r4 k1 k2 k3
        | two o a d =>
          have hda:a.dep<=n/\d.dep<=n:=by simp only [Pt.dep] at hd;omega
          obtain ⟨b1,b2,rfl,ho1,ho2⟩:=pU (l:=a.ends) (r:=d.ends) hbo
          have hts':ts.length=a.holes + d.holes:=hts
          have hsp:ts=ts.take a.holes++ts.drop a.holes:=(List.take_append_drop _ _).symm
          have l1:(ts.take a.holes).length=a.holes:=by rw [List.length_take];omega
          have l2:(ts.drop a.holes).length=d.holes:=by rw [List.length_drop];omega
          have k1:∀ x∈ts.take a.holes,x.ok/\x.dep<=N:=fun x hx=>htk x (List.mem_of_mem_take hx)
          have k2:∀ x∈ts.drop a.holes,x.ok/\x.dep<=N:=fun x hx=>htk x (List.mem_of_mem_drop hx)
          rw [hsp,List.map_append,List.append_assoc] at ht
          rw [List.append_assoc] at hb
          dsimp! only [Pt.toU,bY,bT,bZ,b5,bX,b7,bU,xQ]
          intro p0 hp0
          have nb:b≠p0:=fun z=>by subst z;rw [hp0] at hb;cases hb
          have nt:t≠p0:=fun z=>by subst z;rw [hp0] at ht;cases ht
          refine cP (S:=⟨none,[a.toU,d.toU]⟩) (M1:=mup M p0 (.lst [.str o.word])) (fun R r=>by first | exact r | simpa using r)
            (fun i τ Mi=>∃ (c:Option U),τ=[some (Pt.two o a d).toU,some (.ref b),some (.ref t),some (.ref p0),c]/\(∀ x,x≠p0->x≠b->x≠t->Mi x=M x) /\
              ((i=0/\Mi=mup M p0 (.lst [.str o.word])) \/
               (i=1/\∃ r:Tr,r.ok/\r.dep<=a.dep + N/\bP a r=true/\(p7 a r=b1/\hT a r=ts.take a.holes)/\Mi p0=some (.lst [.str o.word,r.toU])/\Mi b=some (.lst (b2++rb))/\Mi t=some (.lst ((ts.drop a.holes).map Tr.toU++rt))) \/
               (i=2/\∃ r r':Tr,(r.ok/\r.dep<=a.dep + N/\bP a r=true/\(p7 a r=b1/\hT a r=ts.take a.holes))/\(r'.ok/\r'.dep<=d.dep + N/\bP d r'=true/\(p7 d r'=b2/\hT d r'=ts.drop a.holes))/\Mi p0=some (.lst [.str o.word,r.toU,r'.toU])/\Mi b=some (.lst rb)/\Mi t=some (.lst rt))))
            ⟨none,rfl,fun x h1 _ _=>aK h1,.inl ⟨rfl,rfl⟩⟩ nk ?_ ?_
          · rintro i x τ Mi e ⟨c,rfl,hM,hh⟩
            match i,e with
            | 0,e =>
              cases e
              rcases hh with ⟨_,rfl⟩ | ⟨z,_⟩ | ⟨z,_⟩
              · dsimp! only [true_and]
                refine ⟨eN,N,a,b,t,b1,b2++rb,(ts.drop a.holes).map Tr.toU++rt,ts.take a.holes,rfl,hda.1,hbt,by rw [aK nb];exact hb,by rw [aK nt];exact ht,ho1,l1,k1,fun r M' r1 r2 r3 r4 m1 m2 m3=>?_⟩
                have m4:M' p0=some (.lst [.str o.word]):=by rw [m3 p0 nb.symm nt.symm,aI]
                dsimp! only [m4]
                refine ⟨by decide,_,rfl,fun x h1 h2 h3=>by rw [aK h1,m3 x h2 h3,aK h1],?_⟩
                refine .inr (.inl ?_)
                first
                  | exact ⟨rfl,r,r1,r2,r3,r4,by first | rfl | exact aI,by rw [aK nb];exact m1,by rw [aK nt];exact m2⟩
                  | exact ⟨r,r1,r2,r3,r4,by first | rfl | exact aI,by rw [aK nb];exact m1,by rw [aK nt];exact m2⟩
              · omega
              · omega
            | 1,e =>
              cases e
              rcases hh with ⟨z,_⟩ | ⟨_,r,r1,r2,r3,r4,w0,w1,w2⟩ | ⟨z,_⟩
              · omega
              · dsimp! only [true_and]
                refine ⟨AE w0,N,d,b,t,b2,rb,rt,ts.drop a.holes,rfl,hda.2,hbt,w1,w2,ho2,l2,k2,fun r' M' r1' r2' r3' r4' m1 m2 m3=>?_⟩
                have m4:M' p0=some (.lst [.str o.word,r.toU]):=by rw [m3 p0 nb.symm nt.symm,w0]
                dsimp! only [m4]
                refine ⟨by decide,_,rfl,fun x h1 h2 h3=>by rw [aK h1,m3 x h2 h3,hM x h1 h2 h3],?_⟩
                refine .inr (.inr ?_)
                first
                  | exact ⟨rfl,r,r',⟨r1,r2,r3,r4⟩,⟨r1',r2',r3',r4'⟩,by first | rfl | exact aI,by rw [aK nb];exact m1,by rw [aK nt];exact m2⟩
                  | exact ⟨r,r',⟨r1,r2,r3,r4⟩,⟨r1',r2',r3',r4'⟩,by first | rfl | exact aI,by rw [aK nb];exact m1,by rw [aK nt];exact m2⟩
              · omega
            | i + 2,e=>cases e
          · rintro τ Mi ⟨c,rfl,hM,hh⟩
            rcases hh with ⟨z,_⟩ | ⟨z,_⟩ | ⟨_,r,r',⟨r1,r2,r3,r4⟩,⟨s1,s2,s3,s4⟩,w0,w1,w2⟩
            · cases z
            · cases z
            · dsimp! only [gF w0]
              refine leave nb nt hp0 hM w1 w2 fun M' k1 k2 k3=>q (.two o r r') M' ⟨r1,s1⟩ (by simp only [Tr.dep,Pt.dep];omega) ?_ ?_ k1 k2 k3
              · simp only [bP,r3,s3];simp
              · exact ⟨by simp only [p7,r4.1,s4.1],by rw [Je,r4.2,s4.2];exact List.take_append_drop _ _⟩
      refine dY fun A B hA hB=>?_
      have hyes:(∀ lo hi,p≠.fr lo hi)->B M:=fun h=>by subst hB;simp only [cN];exact g3 h
      cases p with
      | hole c=>exact absurd rfl (p1 c)
      | any=>exact absurd rfl p2
      | fr lo hi =>
        obtain ⟨z,bs',rfl,h1,h2,h3⟩:=hbo
        have e1:bs'=[]:=h3
        subst e1
        have e2:ts=[]:=List.length_eq_zero_iff.mp hts
        subst e2
        simp_all! only [Pt.toU,bY,bT,bZ,b5,bX,b7,bU,bV,bM,cB,hName]
        subst hA
        simp_all! only [Pt.toU,bY,bT,bZ,b5,bX,b7,bU,bV,bM,cB,eO,jI,cN,cT,rL,bJ,hName,i5,oS,sA]
        refine ⟨AE hb,Ih hb ?_⟩
        refine aS (q (.num z) _ trivial (by simp [Tr.dep,Pt.dep]) ?_ ⟨rfl,rfl⟩ aI ?_ fun y k1 k2=>aK k1)
        · simp only [bP];rw [decide_eq_true h1,decide_eq_true h2];rfl
        · rw [aK hbt.symm];exact ht
      | _=>simp_all! only [Pt.toU,bY,bT,bZ,b5,bX,b7,bU,bV,bM,cB,hName];exact hyes (fun l h z=>by cases z)
    refine dY fun A B hA hB=>?_
    have hyes:p≠.any->B M:=fun h=>by subst hB;simp only [cN];exact g2 h
    cases p with
    | hole c=>exact absurd rfl (p1 c)
    | any =>
      obtain ⟨z,bs',rfl,h1,h2,h3⟩:=hbo
      have e1:bs'=[]:=h3
      subst e1
      have e2:ts=[]:=List.length_eq_zero_iff.mp hts
      subst e2
      simp_all! only [Pt.toU,bY,bT,bZ,b5,bX,b7,bU,bV,bM,cB,hName]
      subst hA
      simp_all! only [Pt.toU,bY,bT,bZ,b5,bX,b7,bU,bV,bM,cB,eO,jI,cN,cT,rL,bJ,hName,i5,oS,sA]
      refine ⟨AE hb,Ih hb ?_⟩
      refine aS (q (.name z) _ ⟨h1,by omega⟩ (by simp [Tr.dep,Pt.dep]) rfl ⟨rfl,rfl⟩ aI ?_ fun y k1 k2=>aK k1)
      rw [aK hbt.symm];exact ht
    | _=>simp_all! only [Pt.toU,bY,bT,bZ,b5,bX,b7,bU,bV,bM,cB,hName];exact hyes (fun z=>by cases z)
  refine dY fun A B hA hB=>?_
  have hyes:(∀ c,p≠.hole c)->B M:=fun h=>by subst hB;simp only [cN];exact g1 h
  cases p with
  | hole c =>
    have e1:bs=[]:=hbo
    subst e1
    match ts,hts with
    | [x],_ =>
      obtain ⟨x1,x2⟩:=htk x List.mem_cons_self
      simp_all! only [Pt.toU,bY,bT,bZ,b5,bX,b7,bU,bV,bM,cB,hName]
      subst hA
      simp_all! only [Pt.toU,bY,bT,bZ,b5,bX,b7,bU,bV,bM,cB,eO,jI,cN,cT,rL,bJ,hName,i5,oS,sA]
      refine ⟨AE ht,Ih ht (aS (q x _ x1 (by omega) rfl ⟨rfl,by cases x <;> rfl⟩ ?_ aI fun y h1 h2=>aK h2))⟩
      rw [aK hbt];exact hb
  | _=>simp_all! only [Pt.toU,bY,bT,bZ,b5,bX,b7,bU,bV,bM,cB,hName];exact hyes (fun c z=>by cases z)
theorem B5 (F:cW K "_law_laid" "_law_laid" pT f fd) (hm:mg "_law_laid"=some (.ref f)) (j6:mg "tuple"=none):∀ n,Callee P w K mg base (n + 1) "_law_laid" (tT n) []
 | 0=>by
  have no:∀ us M Q,¬ tT 0 us M Q:=fun us M Q h=>by
   obtain ⟨_,p,_,_,_,_,_,_,_,h,_⟩:=h
   have:=nY p
   omega
  refine ⟨f,fd,["pattern","borne","trees"],[],[],⟨fun vs H Q E h=>?_,fun A outer s H args us vs Q E _ _ _ _ h=>?_⟩,hm,F.kp,F.binds (zG fun _ _ _ _ _ _ _ _ _=>rfl),.nil,fun H M=>.nil⟩
  ·obtain ⟨us,M,Q',_,_,h,_⟩:=h;exact absurd h (no us M Q')
  ·obtain ⟨us,M,Q',_,_,h,_⟩:=h;exact absurd h (no us M Q')
 | n + 1=>Me F hm j6 (B5 F hm j6 n)
theorem AK {ss:List Str} {i:Int} {s:Str} (hat:cK ss i=some s):cK (ss.map U.str) i=some (.str s):=by
 unfold cK at hat ⊢
 rw [List.length_map]
 cases e:oV ss.length i with
 | none=>rw [e] at hat;cases hat
 | some j =>
  rw [e] at hat
  have hat':ss[j]?=some s:=hat
  show (ss.map U.str)[j]?=_
  rw [List.getElem?_map,hat'];rfl
theorem zT {pt:Pt} {s:Str} {M:aH} {Q:UK} (h:pt.ok) (hd:pt.dep<=60) (hs:PyData.strOk s=true) (q:∀ b,Q (.bl b) M):tI false pt.toU (.tup [.str (Str.ofString "at"),.str s]) M Q:=by
 obtain ⟨z,r,e,_⟩:=wM pt
 have e1:toD pt.toU=some (i6 pt):=vN pt
 have h1:j2 M pt.toU=some (i6 pt):=by rw [<- e1,e];rfl
 have h2:j2 M (.tup [.str (Str.ofString "at"),.str s])=some (i6 (.hole s)):=by rw [<- vN (.hole s)];rfl
 have h3:(i6 (.hole s)).depth<=2:=by simp [i6,PyData.depth,PyData.depthAll]
 have h4:BK false pt.toU (.tup [.str (Str.ofString "at"),.str s]) M Q:=⟨_,_,h1,h2,Aj pt h,Aj (.hole s) hs,by omega,q _⟩
 rw [e] at h4 ⊢
 exact h4
structure Tl.good (ss:List Str) (tl:Tl):Prop where
 name:PyData.strOk tl.name=true
 cls:tl.cls∈ss
 pt:tl.pt.okS ss
 dep:tl.pt.dep<=5
 holes:tl.pt.holes<=4
 lo:0<=tl.cost
 hi:tl.cost<=1000
theorem DJ (L:List Nat) (b:Nat) (v:Int) (h:L≠[]) (hb:∀ s∈L,1<=s/\s<=b):∃ s:Nat,cK (L.map fun s:Nat=>U.int (s:Int)) (v % (L.length:Int))=some (.int (s:Int))/\1<=s/\s<=b:=by
 have hp:0 < (L.length:Int):=by have:=List.length_pos_iff.mpr h;omega
 have h0:=Int.emod_nonneg v (show (L.length:Int)≠0 by omega)
 have h1:=Int.emod_lt_of_pos v hp
 have hlt:(v % (L.length:Int)).toNat < L.length:=by omega
 refine ⟨L[(v % (L.length:Int)).toNat],?_,hb _ (List.getElem_mem hlt)⟩
 unfold cK oV
 rw [List.length_map,if_pos h0,if_pos h1]
 simp [hlt]
theorem Lr (v:Int):∃ s:Nat,cK [U.int 1,U.int 1,U.int 2,U.int 3,U.int 3,U.int 3,U.int 5,U.int 7,U.int 9] (v % 9)=some (.int (s:Int))/\1<=s/\s<=9:=DJ [1,1,2,3,3,3,5,7,9] 9 v (by decide) (by decide)
theorem OF (v:Int):∃ s:Int,cK [U.int 0,U.int 1,U.int (v % 10),U.int (v % 1001)] (v / 1001 % 4)=some (.int s)/\0<=s/\s<=1000:=by
 have e:v / 1001 % 4=0\/v / 1001 % 4=1\/v / 1001 % 4=2\/v / 1001 % 4=3:=by omega
 rcases e with e | e | e | e <;> rw [e]
 ·exact ⟨0,rfl,by decide,by decide⟩
 ·exact ⟨1,rfl,by decide,by decide⟩
 ·exact ⟨v % 10,rfl,by omega,by omega⟩
 ·exact ⟨v % 1001,rfl,by omega,by omega⟩
noncomputable def IY:c8:=fun us M Q=>∃ (c k:Int) (ss:List Str),us=[.int c,.int k,iV ss]/\0<=k/\k < 26/\ss≠[]/\(∀ s∈ss,PyData.strOk s=true)/\∀ tl:Tl,tl.good ss->Q tl.toU M
local macro_rules | `(tactic| simp_all? only [$xs,*]) => `(tactic| simp_all! only [$xs,*, aW, cQ, fB, aX, fC, cG, aZ, bE, dF])
theorem Px (F:cW K "_law_tile" "_law_tile" vL f fd) (hm:mg "_law_tile"=some (.ref f)) (bK:mg "len"=none) (lQ:Callee P w K mg base 2 "_law_draws" yR []) (CB:Callee P w K mg base 3 "_law_pattern" B6 []) (vP:Callee P w K mg base 1 "_law_word" Dc []):Callee P w K mg base 4 "_law_tile" IY []:=by
 refine bF F hm iI (zG fun _ _ _ _ _ _ _ _ _=>rfl) (aD (aO 3 iI.nd (aR lQ (aA (uv 0) (aA aF aB))))
 (aD (aO 4 iI.nd (aG (cX (own:=false) (aA aF (aA aF (aA aF (aA aF (aA aF (aA aF (aA aF (aA aF (aA aF aB)))))))))) (bO (aG (uv 3) aF) aF)))
 (aD (aO 5 iI.nd (aR CB (aA (lM (own:=false) (uv 3) (jU aF) (jU (bL (own:=false) aF (uv 4)))) (aA (uv 2) aB))))
 (aD (aO 6 iI.nd (bO (aG (uv 3) aF) (dA dW bK (aA (uv 2) aB))))
 (aD (b6 (b8 c7 (uv 5) (aY (aA cR (aA (aG (uv 2) (uv 6)) aB))))
 (aE (aO 6 iI.nd (bO (bL (own:=false) (uv 6) aF) (dA dW bK (aA (uv 2) aB)))))
 bI)
 (aD (b6 (b8 c7 (uv 5) (aY (aA cR (aA (aG (uv 2) (uv 6)) aB))))
 (aE (aO 5 iI.nd (aY (aA cR aB))))
 bI)
 (aD (aO 7 iI.nd (aG (cX (own:=false) (aA aF (aA aF (aA (bO (aG (uv 3) aF) aF) (aA (bO (aG (uv 3) aF) aF) aB))))) (bO (dU (aG (uv 3) aF) aF) aF)))
 (aE (aV (aY (aA (aR vP (aA (uv 1) (aA (dU (aG (uv 3) aF) aF) aB))) (aA (aG (uv 2) (uv 6)) (aA (uv 5) (aA (uv 7) aB)))))))))))))) ?_
 rintro us M Q ⟨c,k,ss,rfl,hk0,hk1,hne,hok,q⟩
 refine ⟨rfl,?_⟩
 have hln:0 < (ss.length:Int):=by have:=List.length_pos_iff.mpr hne;omega
 simp_all? only [eO,bJ,hName]
 refine ⟨c,12,rfl,by decide,fun l hl hpos=>?_⟩
 have a0:cK (l.map U.int) 0=some (.int l[0]):=hJ l 0 (by omega)
 have a1:cK (l.map U.int) 1=some (.int l[1]):=hJ l 1 (by omega)
 have a2:cK (l.map U.int) 2=some (.int l[2]):=hJ l 2 (by omega)
 generalize l[0]=v0 at a0
 generalize l[1]=v1 at a1
 generalize l[2]=v2 at a2
 obtain ⟨s,hst,hs1,hs9⟩:=Lr v0
 obtain ⟨cs,hcs,hc0,hc1⟩:=OF v2
 obtain ⟨r0,hr0,hr0l⟩:=PJ l 3 (3 + s) (by omega) (by omega)
 have c0:iB (l.map U.int) (some 3) (some (3 + (s:Int)))=r0.map U.int:=hr0
 simp_all? only [a0,a1,hst,c0,iV,List.length_map]
 refine ⟨by decide,r0,ss,rfl,fun z=>by subst z;simp at hr0l;omega,by omega,hne,hok,fun p p1 p2 p3=>?_⟩
 simp_all? only [a0,a1,hst,c0,iV,List.length_map]
 have i0:=Int.emod_nonneg v1 (show (ss.length:Int)≠0 by omega)
 have i1:=Int.emod_lt_of_pos v1 hln
 have i2:=Int.emod_nonneg (v1 % (ss.length:Int) + 1) (show (ss.length:Int)≠0 by omega)
 have i3:=Int.emod_lt_of_pos (v1 % (ss.length:Int) + 1) hln
 obtain ⟨s0,hat0⟩:=kS ss (v1 % (ss.length:Int)) i0 i1
 have hs0:=hok s0 (nX hat0)
 have hat0':=AK hat0
 refine ⟨hln,?_⟩
 simp_all? only [jI,hat0']
 refine zT (p1.ok hok) (by omega) hs0 fun b=>?_
 cases b with
 | false =>
  obtain ⟨s1,hat⟩:=kS ss (v1 % (ss.length:Int)) i0 i1
  have hat':=AK hat
  have hm1:=nX hat
  have hs1:=hok s1 hm1
  simp_all? only [cN,eO,bJ,jI,hName,hat',List.length_map]
  refine zT (p1.ok hok) (by omega) hs1 fun b2=>?_
  cases b2 with
  | false =>
   dsimp? only [hat',a1,a2,hcs]
   refine ⟨by decide,by decide,⟨by decide,by decide⟩,by decide,⟨by decide,by decide⟩,k,_,rfl,hk0,hk1,fun z hz1 hz2=>?_⟩
   dsimp? only [hat']
   exact aS (q ⟨z,s1,p,cs⟩ ⟨hz1,hm1,p1,p2,p3,hc0,hc1⟩)
  | true =>
   dsimp? only [hat',a1,a2,hcs]
   refine ⟨by decide,by decide,⟨by decide,by decide⟩,by decide,⟨by decide,by decide⟩,k,_,rfl,hk0,hk1,fun z hz1 hz2=>?_⟩
   dsimp? only [hat']
   exact aS (q ⟨z,s1,.any,cs⟩ ⟨hz1,hm1,trivial,by simp [Pt.dep],by simp [Pt.holes],hc0,hc1⟩)
 | true =>
  obtain ⟨s1,hat⟩:=kS ss ((v1 % (ss.length:Int) + 1) % (ss.length:Int)) i2 i3
  have hat':=AK hat
  have hm1:=nX hat
  have hs1:=hok s1 hm1
  simp_all? only [cN,eO,bJ,jI,hName,hat',List.length_map]
  refine ⟨hln,?_⟩
  refine zT (p1.ok hok) (by omega) hs1 fun b2=>?_
  cases b2 with
  | false =>
   dsimp? only [hat',a1,a2,hcs]
   refine ⟨by decide,by decide,⟨by decide,by decide⟩,by decide,⟨by decide,by decide⟩,k,_,rfl,hk0,hk1,fun z hz1 hz2=>?_⟩
   dsimp? only [hat']
   exact aS (q ⟨z,s1,p,cs⟩ ⟨hz1,hm1,p1,p2,p3,hc0,hc1⟩)
  | true =>
   dsimp? only [hat',a1,a2,hcs]
   refine ⟨by decide,by decide,⟨by decide,by decide⟩,by decide,⟨by decide,by decide⟩,k,_,rfl,hk0,hk1,fun z hz1 hz2=>?_⟩
   dsimp? only [hat']
   exact aS (q ⟨z,s1,.any,cs⟩ ⟨hz1,hm1,trivial,by simp [Pt.dep],by simp [Pt.holes],hc0,hc1⟩)
noncomputable def Ey (z:Str):List Tl:=[⟨"pa",z,.two .sum (.hole z) (.hole z),1⟩,⟨"pb",z,.two .less (.hole z) (.hole z),2⟩]
noncomputable def J0 (z:Str):List Tl:=[⟨"pc",z,.two .by_ (.hole z) (.hole z),3⟩,⟨"pd",z,.turn (.hole z),1⟩]
noncomputable def IV (z:Str):List Tl:=[⟨"pe",z,.any,2⟩,⟨"pf",z,.fr 0 (10 ^ Int.toNat 18),2⟩]
noncomputable def plainT (z:Str):List Tl:=Ey z++J0 z++IV z
noncomputable def Gj:c8:=fun us M Q=>∃ z:Str,us=[.str z]/\Q (.lst ((plainT z).map Tl.toU)) M
theorem Na (F:cW K "_law_plain" "_law_plain" sG f fd) (hm:mg "_law_plain"=some (.ref f)):Callee P w K mg base 1 "_law_plain" Gj []:=by
 refine bF F hm mP (nB fun _ _ _ _ _ _ _=>rfl) (aD (aO 1 mP.nd (aY (aA cR (aA (uv 0) aB))))
 (aD (aO 2 mP.nd (cX (own:=false) (aA (aY (aA cR (aA (uv 0) (aA (aY (aA cR (aA (uv 1) (aA (uv 1) aB)))) (aA aF aB))))) (aA (aY (aA cR (aA (uv 0) (aA (aY (aA cR (aA (uv 1) (aA (uv 1) aB)))) (aA aF aB))))) aB))))
 (aD (aO 2 mP.nd (bL (own:=false) (uv 2) (cX (own:=false) (aA (aY (aA cR (aA (uv 0) (aA (aY (aA cR (aA (uv 1) (aA (uv 1) aB)))) (aA aF aB))))) (aA (aY (aA cR (aA (uv 0) (aA (aY (aA cR (aA (uv 1) aB))) (aA aF aB))))) aB)))))
 (aE (aV (bL (own:=false) (uv 2) (cX (own:=false) (aA (aY (aA cR (aA (uv 0) (aA (aY (aA cR aB)) (aA aF aB))))) (aA (aY (aA cR (aA (uv 0) (aA (aY (aA cR (aA aF (aA (AY aF aF) aB)))) (aA aF aB))))) aB))))))))) ?_
 rintro us M Q ⟨z,rfl,q⟩
 refine ⟨rfl,?_⟩
 have pw:D6 10 18:=⟨by decide,by decide,by decide⟩
 refine Bv (Pt.hole z).toU (fun R r=>?_) ?_
 ·dsimp? only [Pt.toU] at r ⊢;exact r
 generalize hh:(Pt.hole z).toU=hole
 refine Bv (.lst ((Ey z).map Tl.toU)) (fun R r=>?_) ?_
 ·dsimp? only [Ey,Tl.toU,Pt.toU,Op.word] at r hh ⊢;subst hh;exact r
 generalize hA:(Ey z).map Tl.toU=lA
 have hAl:lA.length=2:=by rw [<- hA];rfl
 refine Bv (.lst (lA++(J0 z).map Tl.toU)) (fun R r=>?_) ?_
 ·dsimp? only [J0,Tl.toU,Pt.toU,Op.word,hAl] at r hh ⊢;subst hh;exact r
 generalize hB:lA++(J0 z).map Tl.toU=lB
 have hBl:lB.length=4:=by rw [<- hB,List.length_append,hAl];rfl
 have q':Q (.lst (lB++(IV z).map Tl.toU)) M:=by
  have e:(plainT z).map Tl.toU=lB++(IV z).map Tl.toU:=by rw [plainT,List.map_append,List.map_append,hA,hB]
  rw [e] at q;exact q
 dsimp? only [IV,Tl.toU,Pt.toU,Op.word,hBl] at q' ⊢
 exact ⟨pw,aS q'⟩
theorem G0 {z:Str} {ss:List Str} (h:z∈ss) (ho:PyData.strOk z=true):∀ tl∈plainT z,tl.good ss:=by
 intro tl ht
 have ok2:∀ z:Str,PyData.strOk z=true->PyData.strOk z=true:=fun _ h=>h
 simp only [plainT,Ey,J0,IV,List.cons_append,List.nil_append,List.mem_cons,List.not_mem_nil,or_false] at ht
 rcases ht with rfl | rfl | rfl | rfl | rfl | rfl
 ·exact ⟨(by decide +kernel:PyData.strOk (Str.ofString "pa")=true),h,⟨h,h⟩,by simp [Pt.dep],by simp [Pt.holes],by simp,by simp⟩
 ·exact ⟨(by decide +kernel:PyData.strOk (Str.ofString "pb")=true),h,⟨h,h⟩,by simp [Pt.dep],by simp [Pt.holes],by simp,by simp⟩
 ·exact ⟨(by decide +kernel:PyData.strOk (Str.ofString "pc")=true),h,⟨h,h⟩,by simp [Pt.dep],by simp [Pt.holes],by simp,by simp⟩
 ·exact ⟨(by decide +kernel:PyData.strOk (Str.ofString "pd")=true),h,h,by simp [Pt.dep],by simp [Pt.holes],by simp,by simp⟩
 ·exact ⟨(by decide +kernel:PyData.strOk (Str.ofString "pe")=true),h,trivial,by simp [Pt.dep],by simp [Pt.holes],by simp,by simp⟩
 ·exact ⟨(by decide +kernel:PyData.strOk (Str.ofString "pf")=true),h,⟨by decide +kernel,by decide +kernel⟩,by simp [Pt.dep],by simp [Pt.holes],by simp,by simp⟩
noncomputable def zQ:c8:=fun us M Q=>∃ (ns:List Int) (k:Int),us=[.lst (ns.map .int),.int k]/\0<=k/\k<=1000/\∀ n:Int,Q (.int n) M
theorem Hj (F:cW K "_law_cell_at" "_law_cell_at" o8 f fd) (hm:mg "_law_cell_at"=some (.ref f)) (bK:mg "len"=none):Callee P w K mg base 1 "_law_cell_at" zQ []:=by
 refine bF F hm Bl (kP fun _ _ _ _ _ _ _ _=>rfl) (aD (b6 (b8 Aq (uv 1) (dA dW bK (aA (uv 0) aB)))
 (aE (aV (aG (uv 0) (uv 1))))
 bI)
 (aE (aV (bL (own:=false) (bL (own:=false) (gH (own:=false) aF (uv 1)) aF) (dA dW bK (aA (uv 0) aB)))))) ?_
 rintro us M Q ⟨ns,k,rfl,h0,h1,q⟩
 refine ⟨rfl,?_⟩
 dsimp? only [List.length_map]
 refine gX (fun h=>?_) (fun h=>?_)
 ·have h':k < (ns.length:Int):=by simpa using h
  obtain ⟨c,hc⟩:=kS ns k h0 h'
  have hc2:cK (ns.map U.int) k=some (.int c):=by
   have e:((k.toNat:Nat):Int)=k:=by omega
   have a1:=hJ ns k.toNat (by omega)
   rw [e] at a1
   have b1:=fP (xs:=ns) (j:=k.toNat) (v:=ns[k.toNat]'(by omega)) (by simp)
   rw [e,hc] at b1
   rw [a1,Option.some.inj b1]
  dsimp? only [hc2]
  exact aS (q _)
 ·exact ⟨mulL (by decide) (by decide),aS (q _)⟩
theorem O0 (v:Int):∃ s:Nat,cK [U.int 1,U.int 2,U.int 2,U.int 3,U.int 3,U.int 4,U.int 5,U.int 6] (v % 8)=some (.int (s:Int))/\1<=s/\s<=6:=DJ [1,2,2,3,3,4,5,6] 6 v (by decide) (by decide)
theorem F7:∀ zs:List U,(∀ z∈zs,∃ t:Str,z=.str t/\PyData.strOk t=true)->∃ ts:List Str,zs=ts.map U.str/\∀ t∈ts,PyData.strOk t=true
 | [],_=>⟨[],rfl,fun t h=>by cases h⟩
 | z :: zs,h=>by
  obtain ⟨t,rfl,h1⟩:=h z List.mem_cons_self
  obtain ⟨ts,rfl,h2⟩:=F7 zs fun x hx=>h x (List.mem_cons_of_mem _ hx)
  exact ⟨t :: ts,rfl,fun x hx=>by rcases List.mem_cons.mp hx with rfl | hx;exact h1;exact h2 x hx⟩
theorem Ds {ss:List Str}:∀ zs:List U,(∀ z∈zs,∃ t:Tl,z=t.toU/\t.good ss)->∃ ts:List Tl,zs=ts.map Tl.toU/\∀ t∈ts,t.good ss
 | [],_=>⟨[],rfl,fun t h=>by cases h⟩
 | z :: zs,h=>by
  obtain ⟨t,rfl,h1⟩:=h z List.mem_cons_self
  obtain ⟨ts,rfl,h2⟩:=Ds zs fun x hx=>h x (List.mem_cons_of_mem _ hx)
  exact ⟨t :: ts,rfl,fun x hx=>by rcases List.mem_cons.mp hx with rfl | hx;exact h1;exact h2 x hx⟩
noncomputable def x9 (t:Tl):PyData:=.tuple [.str t.name,.str t.cls,i6 t.pt,.int t.cost]
theorem Lp {ss:List Str} (hss:∀ s∈ss,PyData.strOk s=true) {ts:List Tl} (hg:∀ t∈ts,t.good ss) {M:aH} {Q:UK} (q:Q (.bl ts.isEmpty) M):tI false (.lst (ts.map Tl.toU)) (.lst []) M Q:=by
 have hd:∀ l:List Tl,(∀ t∈l,t.good ss)->cV (l.map Tl.toU)=some (l.map x9)/\PyData.canLayAll0 (l.map x9)=true:=by
  intro l
  induction l with
  | nil=>intro _;simp [cV,PyData.canLayAll0]
  | cons a l ih =>
   intro h
   have ga:=h a List.mem_cons_self
   obtain ⟨h1,h2⟩:=ih fun t ht=>h t (List.mem_cons_of_mem _ ht)
   have hc:=hss a.cls ga.cls
   refine ⟨?_,?_⟩
   ·simp only [List.map_cons,cV,h1,Tl.toU,toD,vN,Option.map_some,x9]
   ·simp only [List.map_cons,PyData.canLayAll0,h2,x9,PyData.canLay0,Aj a.pt (ga.pt.ok hss),ga.name,hc,Bool.and_self]
 obtain ⟨h1,h2⟩:=hd ts hg
 have e1:j2 M (.lst (ts.map Tl.toU))=some (.list (ts.map x9)):=by simp only [j2,toD,h1,Option.map_some]
 have e2:j2 M (.lst [])=some (.list []):=by simp [j2,toD,cV]
 show BK false _ _ M Q
 refine ⟨_,_,e1,e2,by simp only [PyData.canLay0];exact h2,by decide +kernel,by simp [PyData.depth,PyData.depthAll],?_⟩
 have e3:PyData.eqv (.list (ts.map x9)) (.list [])=ts.isEmpty:=by
  rw [PyData.eqv]
  cases ts with
  | nil=>rfl
  | cons a l=>rfl
 simp only [e3,Bool.false_eq_true,if_false]
 exact q
structure Table (ss:List Str) (tiles:List Tl):Prop where
 ne:ss≠[]
 len:ss.length<=6
 ok:∀ s∈ss,PyData.strOk s=true
 some:tiles≠[]
 many:tiles.length<=13
 good:∀ t∈tiles,t.good ss
noncomputable def F3:c8:=fun us M Q=>∃ ns:List Int,us=[.lst (ns.map .int)]/\∀ (ss:List Str) (tiles:List Tl) (u:Int),Table ss tiles->0<=u->u<=8->Q (.tup [fD ss tiles,.int u]) M
theorem MA (F:cW K "_law_table" "_law_table" tK f fd) (hm:mg "_law_table"=some (.ref f)) (dB:mg "range"=none) (j6:mg "tuple"=none) (lQ:Callee P w K mg base 2 "_law_draws" yR []) (l9:Callee P w K mg base 1 "_law_cell_at" zQ []) (vP:Callee P w K mg base 1 "_law_word" Dc []) (HI:Callee P w K mg base 4 "_law_tile" IY []) (zM:Callee P w K mg base 1 "_law_plain" Gj []):Callee P w K mg base 5 "_law_table" F3 []:=by
 refine bF F hm iX (nB fun _ _ _ _ _ _ _=>rfl) (aD (aO 1 iX.nd (aR lQ (aA (aR l9 (aA (uv 0) (aA aF aB))) (aA aF aB))))
 (aD (aO 2 iX.nd (aG (cX (own:=false) (aA aF (aA aF (aA aF (aA aF (aA aF (aA aF (aA aF (aA aF aB))))))))) (bO (aG (uv 1) aF) aF)))
 (aD (aO 3 iX.nd (Bx BO j6 (aA (jR false ["k","some"] 1 [1] (qC dB (aA (uv 2) aB)) (aN (k:=1) 0 (by dsimp only [cJ];decide +kernel)) iS (aR vP (aA (uv 0) (aA (aG (uv 1) (bL (own:=false) aF (uv 0))) aB)))) aB)))
 (aD (p8 4 iX.nd false ["k","sorts","script"] 1 [3,0] (qC dB (aA (bO (aG (uv 1) aF) aF) aB)) (aN (k:=1) 0 (by dsimp only [cJ];decide +kernel)) iS (aR HI (aA (aR l9 (aA (uv 2) (aA (bL (own:=false) aF (uv 0)) aB))) (aA (uv 0) (aA (uv 1) aB)))))
 (aD (b6 (m7.pt (C0 (b8 c7 (uv 4) (cX (own:=false) aB)) (DO (b8 c7 (bO (aG (uv 1) aF) aF) aF))))
 (aE (aO 4 iX.nd (bL (own:=false) (uv 4) (aR zM (aA (aG (uv 3) (bO (dU (aG (uv 1) aF) aF) (uv 2))) aB)))))
 (aE (b6 (b8 c7 (bO (aG (uv 1) aF) aF) aF)
 (aE (aO 4 iX.nd (bL (own:=false) (aR zM (aA (aG (uv 3) (bO (dU (aG (uv 1) aF) aF) (uv 2))) aB)) (uv 4))))
 bI)))
 (aE (aV (aY (aA (aY (aA (uv 3) (aA (Bx BO j6 (aA (uv 4) aB)) aB))) (aA (bL (own:=false) aF (bO (aG (uv 1) aF) aF)) aB)))))))))) ?_
 rintro us M Q ⟨ns,rfl,q⟩
 refine ⟨rfl,?_⟩
 simp_all? only [eO,bJ,hName]
 refine ⟨ns,0,rfl,by decide,by decide,fun c0=>?_⟩
 refine ⟨c0,9,rfl,by decide,fun l hl hpos=>?_⟩
 have a0:cK (l.map U.int) 0=some (.int l[0]):=hJ l 0 (by omega)
 have a1:cK (l.map U.int) 1=some (.int l[1]):=hJ l 1 (by omega)
 have a2:cK (l.map U.int) 2=some (.int l[2]):=hJ l 2 (by omega)
 generalize l[0]=v0 at a0
 generalize l[1]=v1 at a1
 generalize l[2]=v2 at a2
 obtain ⟨m,hmat,hm1,hm6⟩:=O0 v0
 have j0:=Int.emod_nonneg v1 (show (8:Int)≠0 by decide)
 have j1:=Int.emod_lt_of_pos v1 (show (0:Int) < 8 by decide)
 simp_all? only [a0,hmat]
 refine ⟨by decide,?_⟩
 refine BP (S:=⟨none,cH 0 m⟩) (M1:=M) (fun u=>∃ t:Str,u=.str t/\PyData.strOk t=true) (fun R r=>⟨by omega,by omega,r⟩) (small (by show (cH 0 m).length<=_;rw [fJ];omega)) (fun a e=>by cases e) ?_ ?_
 ·intro i x hx M' _ R hR
  obtain ⟨rfl,hi⟩:=jF hx
  have ai:cK (l.map U.int) (3 + (0 + (i:Int)))=some (.int l[3 + i]):=by
   rw [show (3:Int) + (0 + (i:Int))=((3 + i:Nat):Int) by omega]
   exact hJ l (3 + i) (by omega)
  dsimp? only [ai]
  exact ⟨_,_,rfl,by omega,by omega,fun z hz1 hz2=>hR _ ⟨z,rfl,hz1⟩⟩
 ·intro zs hzl hzs
  obtain ⟨ss,rfl,hso⟩:=F7 zs hzs
  have hsl:ss.length=m:=by
   have:(ss.map U.str).length=(cH 0 m).length:=hzl
   rw [List.length_map,fJ] at this;exact this
  have hsne:ss≠[]:=fun z=>by subst z;simp at hsl;omega
  simp_all? only [true_and]
  refine BP (S:=⟨none,cH 0 (v1 % 8).toNat⟩) (M1:=M) (fun u=>∃ t:Tl,u=t.toU/\t.good ss) (fun R r=>by dsimp! only [a1,bE,cQ,aX,cG,aZ,dF,fC,fB];exact ⟨by decide,by omega,by omega,r⟩) (small (by show (cH 0 (v1 % 8).toNat).length<=_;rw [fJ];omega)) (fun a e=>by cases e) ?_ ?_
  ·intro i x hx M' _ R hR
   obtain ⟨rfl,hi⟩:=jF hx
   dsimp? only [true_and]
   exact ⟨ns,_,rfl,by omega,by omega,fun n=>⟨n,_,ss,rfl,by omega,by omega,hsne,hso,fun tl htl=>hR _ ⟨tl,rfl,htl⟩⟩⟩
  ·intro zs hzl2 hzs2
   obtain ⟨ts,rfl,htg⟩:=Ds zs hzs2
   have htl:ts.length=(v1 % 8).toNat:=by
    have:(ts.map Tl.toU).length=(cH 0 (v1 % 8).toNat).length:=hzl2
    rw [List.length_map,fJ] at this;exact this
   have hts7:ts.length<=7:=by omega
   have hdm:(m:Int)=(ss.length:Int):=by omega
   obtain ⟨s0,hat⟩:=kS ss (v2 / 6 % (m:Int)) (Int.emod_nonneg _ (by omega)) (by rw [<- hdm];exact Int.emod_lt_of_pos _ (by omega))
   have hat':=AK hat
   have hs0:=nX hat
   have hpg:=G0 hs0 (hso s0 hs0)
   have hpl:(plainT s0).length=6:=rfl
   have hgA:∀ t∈ts++plainT s0,t.good ss:=fun t ht=>by
    rcases List.mem_append.mp ht with ht | ht
    ·exact htg t ht
    ·exact hpg t ht
   have hgB:∀ t∈plainT s0++ts,t.good ss:=fun t ht=>by
    rcases List.mem_append.mp ht with ht | ht
    ·exact hpg t ht
    ·exact htg t ht
   have addA:kD Q (.tup [.tup [.tup (ss.map .str),.tup (ts.map Tl.toU++(plainT s0).map Tl.toU)],.int (1 + v1 % 8)]) M:=by
    have:=q ss (ts++plainT s0) (1 + v1 % 8) ⟨hsne,by omega,hso,fun z=>by simp [plainT,Ey] at z,by rw [List.length_append];omega,hgA⟩ (by omega) (by omega)
    rw [fD,List.map_append] at this
    exact aS this
   have addB:kD Q (.tup [.tup [.tup (ss.map .str),.tup ((plainT s0).map Tl.toU++ts.map Tl.toU)],.int (1 + v1 % 8)]) M:=by
    have:=q ss (plainT s0++ts) (1 + v1 % 8) ⟨hsne,by omega,hso,fun z=>by simp [plainT,Ey] at z,by rw [List.length_append];omega,hgB⟩ (by omega) (by omega)
    rw [fD,List.map_append] at this
    exact aS this
   have addN:ts≠[]->kD Q (.tup [.tup [.tup (ss.map .str),.tup (ts.map Tl.toU)],.int (1 + v1 % 8)]) M:=fun hn=>by
    exact aS (q ss ts (1 + v1 % 8) ⟨hsne,by omega,hso,hn,by omega,htg⟩ (by omega) (by omega))
   simp_all? only [jI]
   refine Lp hso htg ?_
   have hlA:(ts.map Tl.toU).length + ((plainT s0).map Tl.toU).length<=sizeLine:=small (by rw [List.length_map,List.length_map];omega)
   have hlB:((plainT s0).map Tl.toU).length + (ts.map Tl.toU).length<=sizeLine:=small (by rw [List.length_map,List.length_map];omega)
   have m0:(0:Int) < m:=by omega
   cases hE:ts.isEmpty with
   | true =>
    dsimp? only [a2,hat']
    refine ⟨⟨by decide,by decide⟩,m0,s0,rfl,?_⟩
    dsimp? only [a1]
    exact ⟨hlA,by decide,addA⟩
   | false =>
    have hne:ts≠[]:=fun z=>by subst z;cases hE
    dsimp? only [a2,hat']
    refine ⟨by decide,gX (fun _=>?_) (fun _=>⟨by decide,gX (fun _=>?_) (fun _=>?_)⟩)⟩
    ·refine ⟨⟨by decide,by decide⟩,m0,s0,rfl,?_⟩
     dsimp? only [a1]
     exact ⟨hlA,by decide,addA⟩
    ·refine ⟨⟨by decide,by decide⟩,m0,s0,rfl,?_⟩
     dsimp? only [a1]
     exact ⟨hlB,by decide,addB⟩
    ·dsimp? only [a1]
     exact ⟨by decide,addN hne⟩
noncomputable def Jy:c8:=fun us M Q=>∃ (ns:List Int) (u:Int),us=[.lst (ns.map .int),.int u]/\ns.length<=63/\0<=u/\u<=8/\∀ l:List Int,4<=l.length->l.length<=70->Q (.lst (l.map .int)) M
theorem OD {α β:Type} (g:α->β) (l:List α) (a b:Option Int):iB (l.map g) a b=(iB l a b).map g:=by
 unfold iB
 rw [List.length_map,List.map_take,List.map_drop]
theorem Ow {α:Type} (l:List α) (a b:Option Int):(iB l a b).length<=l.length:=by
 unfold iB
 rw [List.length_take,List.length_drop];omega
theorem Pl (F:cW K "_law_rest" "_law_rest" vT f fd) (hm:mg "_law_rest"=some (.ref f)) (tY:mg "list"=none) (bK:mg "len"=none) (l9:Callee P w K mg base 1 "_law_cell_at" zQ []):Callee P w K mg base 2 "_law_rest" Jy []:=by
 refine bF F hm zI (kP fun _ _ _ _ _ _ _ _=>rfl) (aD (aO 2 zI.nd (Bx (QH (own:=true)) tY (aA (lM (own:=false) (uv 0) (jU (uv 1)) k0) aB)))
 (aD (u9 (b8 Aq (dA dW bK (aA (uv 2) aB)) aF)
 (aE (e6 (eM (uv 2) (aA (aR l9 (aA (uv 0) (aA (bL (own:=false) (uv 1) (dA dW bK (aA (uv 2) aB))) aB))) aB)))))
 (aE (aV (uv 2))))) ?_
 rintro us M Q ⟨ns,u,rfl,hl,hu0,hu1,q⟩
 refine ⟨rfl,?_⟩
 dsimp? only [OD]
 intro p hp
 have hcl:=Ow ns (some u) none
 refine uE (fun τ Mi=>∃ l:List Int,τ=[some (.lst (ns.map .int)),some (.int u),some (.ref p)]/\Mi=mup M p (.lst (l.map .int))/\l.length<=70) (fun τ Mi=>match Mi p with | some (.lst us)=>70 - us.length | _=>0) ⟨_,rfl,rfl,by omega⟩ ?_
 rintro τ Mi ⟨l,rfl,rfl,hll⟩
 dsimp? only [List.length_map]
 refine gX (fun h=>?_) (fun h=>?_)
 ·have h4:(l.length:Int) < 4:=by simpa using h
  refine ⟨eN,ns,_,rfl,by omega,by omega,fun n=>?_⟩
  dsimp? only [List.length_map]
  refine ⟨big (by omega),⟨l++[n],by simp,by simp;omega⟩,?_⟩
  simp;omega
 ·have h4:¬ (l.length:Int) < 4:=by simpa using h
  exact ⟨_,M,(Sub.refl M).mup hp,.inr ⟨p,_,rfl,aI,hp,rfl⟩,q l (by omega) hll⟩
noncomputable def Tr.leafy:Tr->Bool
 | .num _=>true
 | .name _=>true
 | _=>false
noncomputable def Tr.parts:Tr->List Tr
 | .turn a=>[a]
 | .two _ a b=>[a,b]
 | _=>[]
noncomputable def Tr.places:Tr->List (List Nat)
 | .turn a=>[] :: a.places.map (0 :: ·)
 | .two _ a b=>[] :: (a.places.map (0 :: ·)++b.places.map (1 :: ·))
 | _=>[[]]
noncomputable def Tr.size:Tr->Nat
 | .turn a=>a.size + 1
 | .two _ a b=>a.size + b.size + 1
 | _=>1
theorem iN:∀ t:Tr,t.places.length=t.size
 | .turn a=>by simp only [Tr.places,Tr.size,List.length_cons,List.length_map,iN a]
 | .two _ a b=>by simp only [Tr.places,Tr.size,List.length_cons,List.length_append,List.length_map,iN a,iN b]
 | .num _=>rfl
 | .name _=>rfl
theorem jX:∀ (p:Tr) (pl:List Nat),pl∈p.places->pl.length < p.size
 | .turn a,pl,h=>by
  simp only [Tr.places,List.mem_cons,List.mem_map] at h
  rcases h with rfl | ⟨q,hq,rfl⟩
  ·simp [Tr.size]
  ·have:=jX a q hq;simp only [Tr.size,List.length_cons];omega
 | .two o a b,pl,h=>by
  simp only [Tr.places,List.mem_cons,List.mem_append,List.mem_map] at h
  rcases h with rfl | ⟨q,hq,rfl⟩ | ⟨q,hq,rfl⟩
  ·simp [Tr.size]
  ·have:=jX a q hq;simp only [Tr.size,List.length_cons];omega
  ·have:=jX b q hq;simp only [Tr.size,List.length_cons];omega
 | .num _,pl,h=>by simp [Tr.places] at h;subst h;simp [Tr.size]
 | .name _,pl,h=>by simp [Tr.places] at h;subst h;simp [Tr.size]
noncomputable def kG (n:Nat):c8:=fun us M Q=>∃ p:Tr,us=[p.toU]/\p.dep<=n/\p.size<=1000/\Q (.lst (p.places.map aU)) M
theorem s_num:(e8 jE (Str.ofString "num")).isSome=false:=by decide +kernel
theorem Rg:(e8 jE (Str.ofString "name")).isSome=false:=by decide +kernel
theorem G9 (p:Tr):∃ z r,p.toU=.tup (.str z :: r)/\(e8 jE z).isSome=!p.leafy/\(p.leafy=false->r=p.parts.map Tr.toU)/\r.length<=3:=by
 cases p with
 | num c=>exact ⟨_,_,rfl,s_num,(fun h=>by cases h),by simp⟩
 | name c=>exact ⟨_,_,rfl,Rg,(fun h=>by cases h),by simp⟩
 | turn a=>exact ⟨_,_,rfl,p9,fun _=>rfl,by simp⟩
 | two o a b=>exact ⟨_,_,rfl,qD o,fun _=>rfl,by simp⟩
theorem Fn {p:Tr} (h:p.leafy=true):p.parts=[]:=by cases p <;> first | rfl | cases h
noncomputable def gO:Nat->List Tr->List (List Nat)
 | _,[]=>[]
 | k,a :: r=>a.places.map (k :: ·)++gO (k + 1) r
theorem Ao (p:Tr):p.places=[] :: gO 0 p.parts:=by cases p <;> simp [Tr.places,Tr.parts,gO]
theorem E7 (l:List Tr) (a:Tr):∀ k,gO k (l++[a])=gO k l++a.places.map ((k + l.length) :: ·):=by
 induction l with
 | nil=>intro k;simp [gO]
 | cons b l ih=>intro k;simp only [List.cons_append,gO,ih,List.length_cons,List.append_assoc];rw [show k + 1 + l.length=k + (l.length + 1) by omega]
theorem Kd (p:Tr) (i:Nat):(gO 0 (p.parts.take i)).length + 1<=p.places.length:=by
 have:∀ (l:List Tr) (k j:Nat),(gO k (l.take j)).length<=(gO k l).length:=by
  intro l
  induction l with
  | nil=>intro k j;simp [gO]
  | cons a l ih =>
   intro k j
   cases j with
   | zero=>simp [gO]
   | succ j=>simp only [List.take_succ_cons,gO,List.length_append];have:=ih (k + 1) j;omega
 have h1:=this p.parts 0 i
 rw [Ao p,List.length_cons]
 omega
theorem KG {p a:Tr} {i:Nat} (h:p.parts[i]?=some a):a.dep < p.dep:=by
 have hm:=List.mem_of_getElem? h
 cases p with
 | turn b =>
  have:a=b:=by simpa [Tr.parts] using hm
  subst this;simp only [Tr.dep];omega
 | two o b c =>
  have:a=b\/a=c:=by simpa [Tr.parts] using hm
  simp only [Tr.dep]
  rcases this with rfl | rfl <;> omega
 | _=>cases hm
theorem HP {p a:Tr} {i:Nat} (h:p.parts[i]?=some a):a.size < p.size:=by
 have hm:=List.mem_of_getElem? h
 cases p with
 | turn b =>
  have:a=b:=by simpa [Tr.parts] using hm
  subst this;simp only [Tr.size];omega
 | two o b c =>
  have:a=b\/a=c:=by simpa [Tr.parts] using hm
  simp only [Tr.size]
  rcases this with rfl | rfl <;> omega
 | _=>cases hm
theorem CK {n:Nat} (F:cW K "places_of" "places_of" j7 f fd) (hm:mg "places_of"=some (.ref f)) (bH:mg "enumerate"=none)
  (cY:Callee P w K mg base 1 "parts_of" iA []) (jG:Callee P w K mg base (n + 1) "places_of" (kG n) []):Callee P w K mg base (n + 2) "places_of" (kG (n + 1)) []:=by
 refine bF F hm gW (nB fun _ _ _ _ _ _ _=>rfl) (aD (aO 1 gW.nd (cX (own:=true) (aA (aY aB) aB)))
 (aD (cS (kQ bH (aA (aR cY (aA (uv 0) aB)) aB)) (eJ (n:=2) (bB (aN (k:=1000) 2 gW.nd) (bB (aN (k:=1000) 3 gW.nd) dH)))
 (aE (e6 (B1 (uv 1) (aA (jR false ["place","number"] 1 [2] (c9 (aR jG (aA (uv 3) aB))) (aN (k:=1) 0 (by dsimp only [cJ];decide +kernel)) iS (bL (own:=false) (aY (aA (uv 1) aB)) (uv 0))) aB)))))
 (aE (aV (uv 1))))) ?_
 rintro us M Q ⟨t,rfl,hd,hz,q⟩
 refine ⟨rfl,?_⟩
 have hbig:∀ a:Tr,a.size<=1000->a.places.length<=1000:=fun a ha=>by rw [iN];exact ha
 dsimp! only [bE,cQ]
 refine fun p hp=>?_
 refine cP (S:=⟨none,numbered (t.parts.map Tr.toU)⟩) (M1:=mup M p (.lst [.tup []])) (fun R r=>?_)
  (fun i τ Mi=>∃ b c,τ=[some t.toU,some (.ref p),b,c]/\Mi=mup M p (.lst (([] :: gO 0 (t.parts.take i)).map aU))) ⟨none,none,rfl,rfl⟩ nk ?_ ?_
 ·obtain ⟨z,rr,e,e1,e2,e3⟩:=G9 t
  refine ⟨z,rr,!t.leafy,by rw [<- e];rfl,e1,by omega,?_⟩
  cases hl:t.leafy with
  | true=>simp only [hl,Bool.not_true,Bool.false_eq_true,if_false];rw [Fn hl] at r;exact r
  | false=>simp only [hl,Bool.not_false,if_true];rw [e2 hl];exact r
 ·rintro i x τ Mi e ⟨b,c,rfl,rfl⟩
  obtain ⟨u,hu,rfl⟩:=iY e
  rw [List.getElem?_map] at hu
  cases hp':t.parts[i]? with
  | none=>rw [hp'] at hu;cases hu
  | some a =>
   rw [hp'] at hu
   cases hu
   have ha:=KG hp'
   have hin:gO 0 (t.parts.take (i + 1))=gO 0 (t.parts.take i)++a.places.map (i :: ·):=by
    have hlt:=(List.getElem?_eq_some_iff.mp hp').1
    rw [List.take_add_one,hp']
    have:=E7 (t.parts.take i) a 0
    rw [List.length_take,Nat.min_eq_left (Nat.le_of_lt hlt),Nat.zero_add] at this
    exact this
   have hsz:=HP hp'
   have hb1:=hbig a (by omega)
   dsimp! only [bE,cQ]
   refine ⟨eN,eI (S:=⟨none,a.places.map aU⟩) (M1:=mup M p (MO.lst (aU [] :: List.map aU (gO 0 (List.take i t.parts))))) (a.places.map fun pl=>aU (i :: pl)) (fun R r'=>⟨a,rfl,by omega,by omega,r'⟩) (by simp) ?_ (fun a e=>by cases e) ?_ ?_⟩
   ·show (a.places.map aU).length<=sizeLine
    rw [List.length_map]
    exact small (by omega)
   ·intro j x y hx hy M' _ R r'
    have hx':(a.places.map aU)[j]?=some x:=hx
    rw [List.getElem?_map] at hx' hy
    cases hpl:a.places[j]? with
    | none=>rw [hpl] at hx';cases hx'
    | some pl =>
     rw [hpl] at hx' hy
     cases hx'
     cases hy
     have h1:=jX a pl (List.mem_of_getElem? hpl)
     dsimp! only [aU,bE,cQ]
     refine ⟨small ?_,?_⟩
     ·simp only [List.length_cons,List.length_nil,List.length_map];omega
     ·simpa [aU] using r'
   ·have h1:=Kd t i
    have h2:=hbig t (by omega)
    dsimp! only [bE,cQ]
    refine ⟨small ?_,_,_,rfl,?_⟩
    ·simp only [List.length_map];omega
    ·rw [hin,List.map_append,List.map_map];rfl
 ·rintro τ Mi ⟨b,c,rfl,rfl⟩
  rw [iW,List.length_map,List.take_length,<- Ao]
  dsimp! only [bE,cQ]
  exact ⟨_,M,(Sub.refl M).mup hp,.inr ⟨p,_,rfl,aI,hp,rfl⟩,q⟩
theorem zN (F:cW K "places_of" "places_of" j7 f fd) (hm:mg "places_of"=some (.ref f)) (bH:mg "enumerate"=none) (cY:Callee P w K mg base 1 "parts_of" iA []):∀ n,Callee P w K mg base (n + 1) "places_of" (kG n) []
 | 0=>by
  have no:∀ us M Q,¬ kG 0 us M Q:=fun us M Q h=>by
   obtain ⟨p,_,h,_⟩:=h
   have:=MR p
   omega
  refine ⟨f,fd,["shape"],[],[],⟨fun vs H Q E h=>?_,fun A outer s H args us vs Q E _ _ _ _ h=>?_⟩,hm,F.kp,F.binds (nB fun _ _ _ _ _ _ _=>rfl),.nil,fun H M=>.nil⟩
  ·obtain ⟨us,M,Q',_,_,h,_⟩:=h;exact absurd h (no us M Q')
  ·obtain ⟨us,M,Q',_,_,h,_⟩:=h;exact absurd h (no us M Q')
 | n + 1=>CK F hm bH cY (zN F hm bH cY n)
theorem Jr (F:cW K "places" "places" Ac f fd) (hm:mg "places"=some (.ref f)) (jG:Callee P w K mg base 41 "places_of" (kG 40) []):Callee P w K mg base 42 "places" (kG 40) []:=by
 refine bF F hm J8 (nB fun _ _ _ _ _ _ _=>rfl) (aE (aV (aR jG (aA (uv 0) aB)))) ?_
 rintro us M Q ⟨p,rfl,hd,hs,q⟩
 refine ⟨rfl,?_⟩
 simp_all? only [cT]
 exact ⟨p,rfl,hd,hs,aS q⟩
theorem vE:∀ t:Tr,t.dep<=t.size
 | .turn a=>by have:=vE a;simp only [Tr.dep,Tr.size];omega
 | .two _ a b=>by have:=vE a;have:=vE b;simp only [Tr.dep,Tr.size];omega
 | .num _=>by simp [Tr.dep,Tr.size]
 | .name _=>by simp [Tr.dep,Tr.size]
theorem mL:∀ t:Tr,1<=t.size
 | .turn a=>by simp only [Tr.size];omega
 | .two _ a b=>by simp only [Tr.size];omega
 | .num _=>by simp [Tr.size]
 | .name _=>by simp [Tr.size]
structure It where
 sort:Str
 tree:Tr
 word:List Int
 seen:List Str
 size:Int
 deep:Int
noncomputable def It.toU (i:It):U:=.tup [.str i.sort,i.tree.toU,yA i.word,.tup (i.seen.map .str),.int i.size,.int i.deep]
theorem rQ {M:aH} {i:It}:view M i.toU=.tup [.str i.sort,i.tree.toU,yA i.word,.tup (i.seen.map .str),.int i.size,.int i.deep]:=rfl
theorem Ts {α:Type} {a b c d e:α} {r:List α}:cK (a :: b :: c :: d :: e :: r) 4=some e:=fP (j:=4) rfl
theorem Tu {α:Type} {a b c d e g:α} {r:List α}:cK (a :: b :: c :: d :: e :: g :: r) 5=some g:=fP (j:=5) rfl
noncomputable def wO (tiles:List Tl):List Int->List Wt->Option (List Wt)
 | [],st=>some st
 | n :: r,st=>(C7 tiles n st).bind (wO tiles r)
theorem EI (tiles:List Tl):∀ (a b:List Int) (st:List Wt),wO tiles (a++b) st=(wO tiles a st).bind (wO tiles b)
 | [],b,st=>rfl
 | n :: a,b,st=>by
  simp only [List.cons_append,wO]
  cases C7 tiles n st with
  | none=>rfl
  | some st'=>exact EI tiles a b st'
structure Inv (ss:List Str) (tiles:List Tl) (i:It):Prop where
 run:∀ (ps:List Str) (st:List Wt),(∀ s∈i.seen,s ∉ ps)->wO tiles i.word (⟨i.tree,i.sort,ps⟩ :: st)=some st
 word:Qm tiles i.word
 tree:i.tree.ok
 nodup:i.seen.Nodup
 sub:∀ s∈i.seen,s∈ss
 lo:1<=i.size
 hi:i.size<=40
 len:(i.word.length:Int) + 6<=6 * i.size + i.seen.length
 dlo:0<=i.deep
 dhi:i.deep<=40
 tsz:(i.tree.size:Int)<=i.size
 srt:i.sort∈ss
theorem rG:∀ (l m:List Str),l.Nodup->(∀ s∈l,s∈m)->l.length<=m.length
 | [],m,_,_=>by simp
 | a :: l,m,hn,hs=>by
  obtain ⟨h1,h2⟩:=List.nodup_cons.mp hn
  have ha:=hs a List.mem_cons_self
  have:=rG l (m.erase a) h2 fun s hsl=>by
   refine (List.mem_erase_of_ne fun z=>?_).mpr (hs s (List.mem_cons_of_mem _ hsl))
   subst z;exact h1 hsl
  rw [List.length_erase_of_mem ha] at this
  have hp:0 < m.length:=List.length_pos_of_mem ha
  simp only [List.length_cons];omega
theorem Inv.seen6 {ss:List Str} {tiles:List Tl} {i:It} (h:Inv ss tiles i) (hs:ss.length<=6):i.seen.length<=6:=by
 have:=rG i.seen ss h.nodup h.sub;omega
theorem Inv.wlen {ss:List Str} {tiles:List Tl} {i:It} (h:Inv ss tiles i) (hs:ss.length<=6):i.word.length<=1200:=by
 have h1:=h.seen6 hs
 have h2:=h.len
 have h3:=h.hi
 omega
theorem DP {ss:List Str} {tiles:List Tl} (ps:List Str) (st:List Wt):∀ its:List It,(∀ i∈its,Inv ss tiles i/\∀ s∈i.seen,s ∉ ps)->wO tiles (its.flatMap It.word) (its.map (fun i=>⟨i.tree,i.sort,ps⟩)++st)=some st
 | [],_=>rfl
 | i :: its,h=>by
  obtain ⟨h1,h2⟩:=h i List.mem_cons_self
  rw [List.flatMap_cons,EI,List.map_cons,List.cons_append,h1.run ps _ h2]
  exact DP ps st its fun x hx=>h x (List.mem_cons_of_mem _ hx)
theorem De:∀ (l:List (Tr × Str)) (its:List It),l.map (·.1)=its.map It.tree->l.map (·.2)=its.map It.sort->l=its.map fun i=>(i.tree,i.sort)
 | [],[],_,_=>rfl
 | [],_ :: _,h,_=>by cases h
 | _ :: _,[],h,_=>by cases h
 | (a,b) :: l,i :: its,h,k=>by
  simp only [List.map_cons,List.cons.injEq] at h k
  rw [List.map_cons,De l its h.2 k.2,h.1,k.1]
noncomputable def Pt.bulk:Pt->Nat
 | .hole _=>0
 | .any=>1
 | .fr _ _=>1
 | .turn a=>1 + a.bulk
 | .two _ a b=>1 + (a.bulk + b.bulk)
noncomputable def cI (tl:Tl) (its:List It):List It:=its.drop (its.length - (bQ tl.pt).length)
structure Fits (tl:Tl) (its:List It):Prop where
 le:(bQ tl.pt).length<=its.length
 sorts:(cI tl its).map It.sort=bQ tl.pt
 fresh:tl.pass=true->∀ i∈cI tl its,tl.cls ∉ i.seen
noncomputable def fO (tl:Tl) (tk:List It):List Str:=tl.cls :: (if tl.pass then (match tk with | i :: _=>i.seen | []=>[]) else [])
theorem zZ {ss:List Str} {tiles:List Tl} (hs:ss.length<=6):∀ its:List It,(∀ i∈its,Inv ss tiles i)->((its.flatMap It.word).length:Int)<=6 * (its.map It.size).sum
 | [],_=>by simp
 | i :: its,h=>by
  have h1:=h i List.mem_cons_self
  have h2:=h1.seen6 hs
  have h3:=h1.len
  have h4:=zZ hs its fun x hx=>h x (List.mem_cons_of_mem _ hx)
  rw [List.flatMap_cons,List.length_append,List.map_cons,List.sum_cons]
  omega
theorem uD {tl:Tl} (h:tl.pass=false):1<=tl.pt.bulk:=by
 obtain ⟨nm,cl,pt,co⟩:=tl
 cases pt with
 | hole c=>exact absurd h (by simp [Tl.pass])
 | _=>simp [Pt.bulk]
theorem GB:∀ l:List Int,(∀ x∈l,0<=x)->0<=l.sum
 | [],_=>by simp
 | a :: l,h=>by
  have h1:=h a List.mem_cons_self
  have h2:=GB l fun x hx=>h x (List.mem_cons_of_mem _ hx)
  rw [List.sum_cons];omega
theorem kJ:∀ (p:Pt) (t:Tr),bP p t=true->t.size=p.bulk + ((hT p t).map Tr.size).sum
 | .hole c,t,_=>by cases t <;> simp [hT,bS,Pt.bulk]
 | .any,.name x,_=>by simp [hT,bS,Pt.bulk,Tr.size]
 | .fr l h,.num n,_=>by simp [hT,bS,Pt.bulk,Tr.size]
 | .turn p,.turn a,hl=>by
  have:=kJ p a hl
  simp only [Tr.size,Pt.bulk,hT,bS] at this ⊢
  omega
 | .two o p q,.two o' a b,hl=>by
  simp only [bP,Bool.and_eq_true] at hl
  have h1:=kJ p a hl.2.1
  have h2:=kJ q b hl.2.2
  rw [Je,List.map_append,List.sum_append]
  simp only [Tr.size,Pt.bulk]
  omega
 | .any,.num _,h=>by cases h
 | .any,.turn _,h=>by cases h
 | .any,.two _ _ _,h=>by cases h
 | .fr _ _,.name _,h=>by cases h
 | .fr _ _,.turn _,h=>by cases h
 | .fr _ _,.two _ _ _,h=>by cases h
 | .turn _,.num _,h=>by cases h
 | .turn _,.name _,h=>by cases h
 | .turn _,.two _ _ _,h=>by cases h
 | .two _ _ _,.num _,h=>by cases h
 | .two _ _ _,.name _,h=>by cases h
 | .two _ _ _,.turn _,h=>by cases h
theorem B7 {ss:List Str} {tiles:List Tl}:∀ its:List It,(∀ i∈its,Inv ss tiles i)->((((its.map It.tree).map Tr.size).sum:Nat):Int)<=(its.map It.size).sum
 | [],_=>by simp
 | i :: its,h=>by
  have h1:=(h i List.mem_cons_self).tsz
  have h2:=B7 its fun x hx=>h x (List.mem_cons_of_mem _ hx)
  simp only [List.map_cons,List.sum_cons]
  push_cast
  omega
theorem Lq {ss:List Str} {tiles:List Tl} {its:List It} {tl:Tl} {n:Int} {r:Tr} {d:Int} (hT:Table ss tiles) (hn0:0<=n) (hn1:n < tiles.length) (hat:tiles[n.toNat]?=some tl) (hI:∀ i∈its,Inv ss tiles i) (hf:Fits tl its)
  (hl:bP tl.pt r=true) (hr:K25.hT tl.pt r=(cI tl its).map It.tree) (hok:r.ok) (hsz:(tl.pt.bulk:Int) + ((cI tl its).map It.size).sum<=40) (hd0:0<=d) (zE:d<=40) :
  Inv ss tiles ⟨tl.cls,r,n :: (cI tl its).flatMap It.word,fO tl (cI tl its),(tl.pt.bulk:Int) + ((cI tl its).map It.size).sum,d⟩:=by
 have hcls:=oY tl.pt r hl
 rw [<- hf.sorts] at hcls
 have hpairs:=De _ _ hr hcls
 have hItk:∀ i∈cI tl its,Inv ss tiles i:=fun i hi=>hI i (List.mem_of_mem_drop hi)
 have hg:=hT.good tl (List.mem_of_getElem? hat)
 have hone:tl.pass=true->∃ i0,cI tl its=[i0]:=fun hp=>by
  have:(bQ tl.pt).length=1:=by
   obtain ⟨nm,cl,pt,co⟩:=tl
   cases pt <;> first | rfl | (cases hp)
  rw [<- hf.sorts,List.length_map] at this
  exact List.length_eq_one_iff.mp this
 refine ⟨fun ps st hps=>?_,?_,hok,?_,?_,?_,hsz,?_,hd0,zE,?_,hg.cls⟩
 ·have hcp:tl.cls ∉ ps:=hps tl.cls (by simp [fO])
  have e1:C7 tiles n (⟨r,tl.cls,ps⟩ :: st)=some (below tl ⟨r,tl.cls,ps⟩++st):=by
   simp only [C7,hn0,hn1,hat,hl,hcp,and_self,if_true,not_false_eq_true]
  have e2:below tl ⟨r,tl.cls,ps⟩=(cI tl its).map fun i=>⟨i.tree,i.sort,EH tl ⟨r,tl.cls,ps⟩⟩:=by
   simp only [below];rw [hpairs,List.map_map];rfl
  simp only [wO,e1,Option.bind_some,e2]
  refine DP _ st _ fun i hi=>⟨hItk i hi,fun s hs=>?_⟩
  unfold EH
  cases hp:tl.pass with
  | false=>simp
  | true =>
   obtain ⟨i0,e0⟩:=hone hp
   rw [e0] at hi
   cases List.mem_singleton.mp hi
   simp only [if_true,List.mem_append,List.mem_singleton,not_or]
   refine ⟨hps s (by simp only [fO,hp,if_true,e0];exact List.mem_cons_of_mem _ hs),fun z=>?_⟩
   have:=hf.fresh hp i (by rw [e0];exact List.mem_cons_self)
   rw [<- z] at this;exact this hs
 ·intro k hk
  rcases List.mem_cons.mp hk with rfl | hk
  ·exact ⟨hn0,hn1⟩
  ·obtain ⟨i,hi,hk⟩:=List.mem_flatMap.mp hk
   exact (hItk i hi).word k hk
 ·show (fO tl (cI tl its)).Nodup
  unfold fO
  cases hp:tl.pass with
  | false=>simp
  | true =>
   obtain ⟨i0,e0⟩:=hone hp
   have:=hf.fresh hp i0 (by rw [e0];exact List.mem_cons_self)
   rw [e0]
   exact List.nodup_cons.mpr ⟨this,(hItk i0 (by rw [e0];exact List.mem_cons_self)).nodup⟩
 ·show ∀ s∈fO tl (cI tl its),s∈ss
  intro s hs
  unfold fO at hs
  rcases List.mem_cons.mp hs with rfl | hs
  ·exact hg.cls
  ·cases hp:tl.pass with
   | false=>rw [hp] at hs;cases hs
   | true =>
    obtain ⟨i0,e0⟩:=hone hp
    rw [hp,e0] at hs
    exact (hItk i0 (by rw [e0];exact List.mem_cons_self)).sub s hs
 ·show (1:Int)<=tl.pt.bulk + ((cI tl its).map It.size).sum
  cases hp:tl.pass with
  | false =>
   have h1:=uD hp
   have h2:=GB ((cI tl its).map It.size) fun x hx=>by
    obtain ⟨i,hi,rfl⟩:=List.mem_map.mp hx
    have:=(hItk i hi).lo;omega
   omega
  | true =>
   obtain ⟨i0,e0⟩:=hone hp
   have h1:=(hItk i0 (by rw [e0];exact List.mem_cons_self)).lo
   rw [e0]
   simp only [List.map_cons,List.map_nil,List.sum_cons,List.sum_nil];omega
 ·show (((n :: (cI tl its).flatMap It.word).length:Nat):Int) + 6<=6 * (tl.pt.bulk + ((cI tl its).map It.size).sum) + ((fO tl (cI tl its)).length:Nat)
  cases hp:tl.pass with
  | false =>
   have h1:=uD hp
   have h2:=zZ hT.len (cI tl its) hItk
   simp only [fO,hp,Bool.false_eq_true,if_false,List.length_cons,List.length_nil]
   omega
  | true =>
   obtain ⟨i0,e0⟩:=hone hp
   have h1:=(hItk i0 (by rw [e0];exact List.mem_cons_self)).len
   have hb:tl.pt.bulk=0:=by
    obtain ⟨nm,cl,pt,co⟩:=tl
    cases pt <;> first | rfl | (cases hp)
   rw [e0,hb]
   simp only [fO,hp,if_true,List.length_cons,List.flatMap_cons,List.flatMap_nil,List.append_nil,List.map_cons,List.map_nil,List.sum_cons,List.sum_nil]
   omega
 ·show ((r.size:Nat):Int)<=tl.pt.bulk + ((cI tl its).map It.size).sum
  have h1:=kJ tl.pt r hl
  rw [hr] at h1
  have h2:=B7 (cI tl its) hItk
  omega
theorem yN:∀ p:Pt,p.bulk < 2 ^ p.dep
 | .hole _=>by simp [Pt.bulk,Pt.dep]
 | .any=>by simp [Pt.bulk,Pt.dep]
 | .fr _ _=>by simp [Pt.bulk,Pt.dep]
 | .turn a=>by have:=yN a;simp only [Pt.bulk,Pt.dep,Nat.pow_succ];omega
 | .two _ a b=>by
  have h1:=yN a
  have h2:=yN b
  have h3:2 ^ a.dep<=2 ^ max a.dep b.dep:=Nat.pow_le_pow_right (by decide) (Nat.le_max_left _ _)
  have h4:2 ^ b.dep<=2 ^ max a.dep b.dep:=Nat.pow_le_pow_right (by decide) (Nat.le_max_right _ _)
  simp only [Pt.bulk,Pt.dep,Nat.pow_succ];omega
theorem Dw {p:Pt} (h:p.dep<=10):(0:Int)<=(p.bulk:Int)/\(p.bulk:Int)<=1000000:=by
 have h1:=yN p
 have h2:2 ^ p.dep<=2 ^ 10:=Nat.pow_le_pow_right (by decide) h
 have h3:(2:Nat) ^ 10=1024:=by decide
 omega
noncomputable def xZ (n:Nat):c8:=fun us M Q=>∃ p:Pt,us=[p.toU]/\p.dep<=n/\n<=10/\Q (.int (p.bulk:Int)) M
theorem O3 {n:Nat} (F:cW K "_law_bulk" "_law_bulk" pR f fd) (hm:mg "_law_bulk"=some (.ref f)) (l5:mg "sum"=none) (v7:Callee P w K mg base (n + 1) "_law_bulk" (xZ n) []):Callee P w K mg base (n + 2) "_law_bulk" (xZ (n + 1)) []:=by
 refine bF F hm EZ (nB fun _ _ _ _ _ _ _=>rfl) (aD (b6 (b8 c7 (aG (uv 0) aF) cR)
 (aE (aV aF))
 bI)
 (aD (b6 (b8 MY (aG (uv 0) aF) (aY (aA cR (aA cR aB))))
 (aE (aV aF))
 bI)
 (aE (aV (bL (own:=false) aF (dA NA l5 (aA (jR false ["part"] 1 [] (c9 (lM (own:=false) (uv 0) (jU aF) k0)) (aN (k:=1) 0 (by dsimp only [cJ];decide +kernel)) iS (aR v7 (aA (uv 0) aB))) aB))))))) ?_
 rintro us M Q ⟨p,rfl,hd,hn,q⟩
 refine ⟨rfl,?_⟩
 have fl:∀ z:Str,jN (.str z)=true:=fun _=>rfl
 have fl2:[U.str (Str.ofString "any"),U.str (Str.ofString "from")].all jN=true:=rfl
 cases p with
 | hole c =>
  dsimp? only [Pt.toU,bY,bT,bZ,b5,bX,b7,bU]
  exact aS q
 | any =>
  dsimp? only [Pt.toU,bY,bT,bZ,b5,bX,b7,bU,pX,fl,fl2,Bool.true_or,Bool.or_true]
  exact aS q
 | fr l h =>
  dsimp? only [Pt.toU,bY,bT,bZ,b5,bX,b7,bU,pX,fl,fl2,Bool.true_or,Bool.or_true]
  exact aS q
 | turn a =>
  have hda:a.dep<=n:=by simp only [Pt.dep] at hd;omega
  have ba:=Dw (p:=a) (by omega)
  dsimp? only [Pt.toU,bY,bT,bZ,b5,bX,b7,bU,pX,fl,fl2,Bool.or_false,xQ]
  refine eI (S:=⟨none,[a.toU]⟩) (M1:=M) ([(a.bulk:Int)].map U.int) (fun R r=>by first | exact r | simpa [xQ] using r) rfl (show 1<=sizeLine by decide) (fun a e=>by cases e) ?_ ?_
  ·intro j x y hx hy M' _ R r'
   match j,hx,hy with
   | 0,hx,hy =>
    cases hx;cases hy
    dsimp? only [true_and]
    exact ⟨a,rfl,hda,by omega,r'⟩
   | j + 1,hx,hy=>cases hy
  ·simp only [jL,lW]
   refine ⟨_,pV _,fits_of (by simp;omega) (by simp),?_⟩
   have q':Q (.int (1 + ([(a.bulk:Int)].sum))) M:=by
    have e:1 + ([(a.bulk:Int)].sum)=(((Pt.turn a).bulk:Nat):Int):=by simp [Pt.bulk]
    rw [e];exact q
   exact aS q'
 | two o a b =>
  have hda:a.dep<=n/\b.dep<=n:=by simp only [Pt.dep] at hd;omega
  have ba:=Dw (p:=a) (by omega)
  have bb:=Dw (p:=b) (by omega)
  dsimp? only [Pt.toU,bY,bT,bZ,b5,bX,b7,bU,pX,fl,fl2,Bool.or_false,xQ]
  refine eI (S:=⟨none,[a.toU,b.toU]⟩) (M1:=M) ([(a.bulk:Int),(b.bulk:Int)].map U.int) (fun R r=>by first | exact r | simpa [xQ] using r) rfl (show 2<=sizeLine by decide) (fun a e=>by cases e) ?_ ?_
  ·intro j x y hx hy M' _ R r'
   match j,hx,hy with
   | 0,hx,hy =>
    cases hx;cases hy
    dsimp? only [true_and]
    exact ⟨a,rfl,hda.1,by omega,r'⟩
   | 1,hx,hy =>
    cases hx;cases hy
    dsimp? only [true_and]
    exact ⟨b,rfl,hda.2,by omega,r'⟩
   | j + 2,hx,hy=>cases hy
  ·simp only [jL,lW]
   refine ⟨_,pV _,fits_of (by simp;omega) (by simp),?_⟩
   have q':Q (.int (1 + ([(a.bulk:Int),(b.bulk:Int)].sum))) M:=by
    have e:1 + ([(a.bulk:Int),(b.bulk:Int)].sum)=(((Pt.two o a b).bulk:Nat):Int):=by simp [Pt.bulk]
    rw [e];exact q
   exact aS q'
theorem ET (F:cW K "_law_bulk" "_law_bulk" pR f fd) (hm:mg "_law_bulk"=some (.ref f)) (l5:mg "sum"=none):∀ n,Callee P w K mg base (n + 1) "_law_bulk" (xZ n) []
 | 0=>by
  have no:∀ us M Q,¬ xZ 0 us M Q:=fun us M Q h=>by
   obtain ⟨p,_,h,_⟩:=h
   have:=nY p
   omega
  refine ⟨f,fd,["pattern"],[],[],⟨fun vs H Q E h=>?_,fun A outer s H args us vs Q E _ _ _ _ h=>?_⟩,hm,F.kp,F.binds (nB fun _ _ _ _ _ _ _=>rfl),.nil,fun H M=>.nil⟩
  ·obtain ⟨us,M,Q',_,_,h,_⟩:=h;exact absurd h (no us M Q')
  ·obtain ⟨us,M,Q',_,_,h,_⟩:=h;exact absurd h (no us M Q')
 | n + 1=>O3 F hm l5 (ET F hm l5 n)
noncomputable def A1:U->Option U
 | .tup [_,.tup [.str z,y]]=>if z=Str.ofString "at" then some y else none
 | _=>none
theorem BY (e:List Nat × Pt) (h:e.2.leafy=true):A1 (cM e)=(gE e.2).map U.str:=by
 obtain ⟨pl,pt⟩:=e
 cases pt with
 | hole c=>simp [A1,cM,Pt.toU,gE]
 | any=>rfl
 | fr l hh=>rfl
 | turn a=>cases h
 | two o a b=>cases h
theorem Dy:∀ l:List (List Nat × Pt),(∀ e∈l,e.2.leafy=true)->(l.map cM).filterMap A1=((l.map (·.2)).filterMap gE).map U.str
 | [],_=>rfl
 | e :: l,h=>by
  have h1:=BY e (h e List.mem_cons_self)
  have h2:=Dy l fun x hx=>h x (List.mem_cons_of_mem _ hx)
  rw [List.map_cons,List.filterMap_cons,h1,h2,List.map_cons,List.filterMap_cons]
  cases gE e.2 <;> rfl
theorem nG:∀ (p:Pt) (pl:List Nat),∀ e∈bD p pl,e.2.leafy=true
 | .turn a,pl,e,h=>nG a _ e h
 | .two _ a b,pl,e,h=>by
  rcases List.mem_append.mp h with h | h
  ·exact nG a _ e h
  ·exact nG b _ e h
 | .hole _,pl,e,h=>by cases List.mem_singleton.mp h;rfl
 | .any,pl,e,h=>by cases List.mem_singleton.mp h;rfl
 | .fr _ _,pl,e,h=>by cases List.mem_singleton.mp h;rfl
theorem nN:∀ p:Pt,(bQ p).length=p.holes
 | .hole _=>rfl
 | .any=>rfl
 | .fr _ _=>rfl
 | .turn a=>nN a
 | .two _ a b=>by
  have h1:=nN a
  have h2:=nN b
  simp only [bQ] at h1 h2
  simp only [bQ,Pt.ends,Pt.holes,List.filterMap_append,List.length_append,h1,h2]
noncomputable def yJ (p:Pt):U:=.lst ((bQ p).map .str)
noncomputable def JD:c8:=fun us M Q=>∃ p:Pt,us=[p.toU]/\p.dep<=6/\Q (yJ p) M
theorem Pz (F:cW K "_law_asks" "_law_asks" uO f fd) (hm:mg "_law_asks"=some (.ref f)) (iE:Callee P w K mg base 7 "_law_ends" (oU 6) []):Callee P w K mg base 8 "_law_asks" JD []:=by
 refine bF F hm Fi (nB fun _ _ _ _ _ _ _=>rfl) (aE (aV (jR false ["place","end"] 2 [] (c9 (aR iE (aA (uv 0) (aA (aY aB) aB)))) (eJ (n:=2) (bB (aN (k:=2) 0 (by dsimp only [cJ];decide +kernel)) (bB (aN (k:=2) 1 (by dsimp only [cJ];decide +kernel)) dH))) (yQ (b8 c7 (aG (uv 1) aF) cR)) (aG (uv 1) aF)))) ?_
 rintro us M Q ⟨p,rfl,hd,q⟩
 refine ⟨rfl,?_⟩
 have hl:=kH p []
 have h2:2 ^ p.dep<=2 ^ 6:=Nat.pow_le_pow_right (by decide) hd
 dsimp? only [true_and]
 refine AA (S:=⟨none,(bD p []).map cM⟩) (M1:=M) A1 (fun R r=>by dsimp! only [bE,cQ,aX,cG,aZ,dF,fC,fB];exact ⟨p,[],rfl,hd,by decide,by decide,r⟩) (small (by show ((bD p []).map cM).length<=_;rw [List.length_map];omega)) (fun a e=>by cases e) ?_ ?_
 ·intro x hx M' _ R r'
  obtain ⟨e,he,rfl⟩:=List.mem_map.mp hx
  have hle:=nG p [] e he
  rw [BY e hle] at r'
  obtain ⟨pl,pt⟩:=e
  cases pt with
  | hole c=>dsimp? only [cM,Pt.toU,bY,bT,bZ,b5,bX,b7,bU];exact r'
  | any=>dsimp? only [cM,Pt.toU,bY,bT,bZ,b5,bX,b7,bU];exact r'
  | fr l h=>dsimp? only [cM,Pt.toU,bY,bT,bZ,b5,bX,b7,bU];exact r'
  | turn a=>cases hle
  | two o a b=>cases hle
 ·have e1:=Dy (bD p []) (nG p [])
  rw [lE] at e1
  have e2:jL false (((bD p []).map cM).filterMap A1) M (kD Q):=by
   rw [e1];exact aS q
  exact e2
theorem Af {α:Type} (l:List α) (n k:Nat) (hn:n=l.length) (h:k<=n):iB l (some ((n:Int) - (k:Int))) none=l.drop (l.length - k):=by
 subst hn
 unfold iB
 have e1:HT.bW l.length 0 (some ((l.length:Int) - (k:Int)))=l.length - k:=by
  simp only [HT.bW]
  rw [if_neg (by omega)]
  omega
 have e2:HT.bW l.length l.length none=l.length:=rfl
 rw [e1,e2,List.take_of_length_le (by rw [List.length_drop];omega)]
theorem BW (tl:Tl) (its:List It):(its.map It.toU).drop ((its.map It.toU).length - (bQ tl.pt).length)=(cI tl its).map It.toU:=by
 rw [List.length_map,cI,List.map_drop]
theorem Cw {tl:Tl} {its:List It} (h:(bQ tl.pt).length<=its.length):(cI tl its).length=(bQ tl.pt).length:=by
 rw [cI,List.length_drop];omega
noncomputable def K8:c8:=fun us M Q=>∃ (tl:Tl) (p:Addr) (its:List It),us=[tl.toU,.ref p,yJ tl.pt]/\M p=some (.lst (its.map It.toU))/\tl.pt.holes<=4/\∀ b:Bool,(b=true->Fits tl its)->Q (.bl b) M
theorem N8 (F:cW K "_law_fits" "_law_fits" uY f fd) (hm:mg "_law_fits"=some (.ref f)) (bK:mg "len"=none) (pL:mg "zip"=none):Callee P w K mg base 1 "_law_fits" K8 []:=by
 refine bF F hm oH (zG fun _ _ _ _ _ _ _ _ _=>rfl) (aD (b6 (b8 xP (dA dW bK (aA (uv 2) aB)) (dA dW bK (aA (uv 1) aB)))
 (aE (aV m8))
 bI)
 (aD (aO 3 oH.nd (lM (own:=false) (uv 1) (jU (oT (dA dW bK (aA (uv 1) aB)) (dA dW bK (aA (uv 2) aB)))) k0))
 (aD (cS (MM pL (aA (uv 2) (aA (uv 3) aB))) (eJ (n:=2) (bB (aN (k:=1000) 4 oH.nd) (bB (aN (k:=1000) 5 oH.nd) dH)))
 (aE (b6 (b8 pY (aG (uv 5) aF) (uv 4))
 (aE (aV m8))
 bI)))
 (aE (aV (SD (xB pY (aG (aG (uv 0) aF) aF) cR) (DU (xB yP (aG (uv 0) aF) (aG (aG (uv 3) aF) aF))))))))) ?_
 rintro us M Q ⟨tl,p,its,rfl,hM,hh4,q⟩
 refine ⟨rfl,?_⟩
 have no:kD Q (.bl false) M:=aS (q false fun z=>by cases z)
 have hvw:=gF hM
 simp_all? only [eO,jI,yJ,hvw,List.length_map]
 refine gX (fun h=>?_) (fun h=>?_)
 ·simp only [cT,uC]
  exact no
 ·have hle:(bQ tl.pt).length<=its.length:=by
   have:=of_decide_eq_false (by simpa using h:decide (((bQ tl.pt).length:Int) > (its.length:Int))=false)
   omega
  have hcut:iB (its.map It.toU) (some ((its.length:Int) - ((bQ tl.pt).length:Int))) none=(cI tl its).map It.toU:=by
   rw [Af (its.map It.toU) its.length (bQ tl.pt).length (by rw [List.length_map]) hle];exact BW tl its
  have htl:=Cw hle
  have hal:=nN tl.pt
  simp_all? only [cN,eO,bJ,hName,hvw,List.length_map,hcut]
  refine cP (S:=⟨none,eZ ((bQ tl.pt).map U.str) ((cI tl its).map It.toU)⟩) (M1:=M) (fun R r=>by simp_all! only [aW,bE,cQ,aX,cG,aZ,dF,fC,fB];exact r)
   (fun i τ Mi=>∃ a b:Option U,τ=[some tl.toU,some (.ref p),some (.lst ((bQ tl.pt).map U.str)),some (.lst ((cI tl its).map It.toU)),a,b]/\Mi=M/\∀ j,j < i->((cI tl its).map It.sort)[j]?=(bQ tl.pt)[j]?)
   ⟨none,none,rfl,rfl,fun j hj=>by omega⟩ nk ?_ ?_
  ·rintro i x τ Mi e ⟨a,b,rfl,rfl,hsame⟩
   obtain ⟨u,v,e1,e2,rfl⟩:=uM e
   rw [List.getElem?_map] at e1 e2
   cases h1:(bQ tl.pt)[i]? with
   | none=>rw [h1] at e1;cases e1
   | some z =>
    cases h2:(cI tl its)[i]? with
    | none=>rw [h2] at e2;cases e2
    | some it =>
     rw [h1] at e1;rw [h2] at e2
     cases e1;cases e2
     dsimp? only [rQ]
     by_cases hz:it.sort=z
     ·dsimp? only [hz]
      refine ⟨_,_,rfl,fun j hj=>?_⟩
      by_cases hji:j=i
      ·subst hji;rw [List.getElem?_map,h1,h2,<- hz];rfl
      ·exact hsame j (by omega)
     ·dsimp? only [hz]
      exact no
  ·rintro τ Mi ⟨a,b,rfl,rfl,hsame⟩
   have hzl:(Src.mk none (eZ ((bQ tl.pt).map U.str) ((cI tl its).map It.toU))).xs.length=(bQ tl.pt).length:=by
    show (eZ _ _).length=_
    rw [v5,List.length_map,List.length_map,htl];omega
   rw [hzl] at hsame
   have hsorts:(cI tl its).map It.sort=bQ tl.pt:=by
    refine List.ext_getElem? fun j=>?_
    by_cases hj:j < (bQ tl.pt).length
    ·exact hsame j hj
    ·rw [List.getElem?_eq_none (by rw [List.length_map,htl];omega),List.getElem?_eq_none (by omega)]
   have fl:∀ z:Str,jN (.str z)=true:=fun _=>rfl
   obtain ⟨nm,cl,pt,co⟩:=tl
   cases pt with
   | hole c =>
    have hone:(cI ⟨nm,cl,.hole c,co⟩ its).length=1:=by rw [htl];rfl
    obtain ⟨i0,e0⟩:=List.length_eq_one_iff.mp hone
    dsimp? only [Tl.toU,Pt.toU,e0,rQ,fl,xT,nP]
    refine aS (q _ fun hb=>⟨hle,hsorts,fun _ i hi=>?_⟩)
    rw [e0] at hi
    cases List.mem_singleton.mp hi
    simpa using hb
   | _ =>
    dsimp? only [Tl.toU,Pt.toU,bY,bT,bZ,b5,bX,b7,bU]
    exact aS (q _ fun _=>⟨hle,hsorts,fun hp=>by cases hp⟩)
noncomputable def JP:c8:=fun us M Q=>∃ (p:Pt) (tk:List It),us=[p.toU,.lst (tk.map It.toU)]/\p.dep<=6/\tk.length=p.holes/\p.holes<=4/\(∀ i∈tk,0<=i.deep)/\∀ d:Int,0<=d->Q (.int d) M
theorem Hd (p:Pt) (i:Nat) {e:List Nat × Pt} (h:(bD p [])[i]?=some e):(((bD p []).drop i).filterMap fun e=>gE e.2).length=(if (gE e.2).isSome then 1 else 0) + (((bD p []).drop (i + 1)).filterMap fun e=>gE e.2).length:=by
 have hi:=(List.getElem?_eq_some_iff.mp h).1
 have hd:(bD p []).drop i=e :: (bD p []).drop (i + 1):=by
  rw [List.drop_eq_getElem_cons hi]
  rw [List.getElem?_eq_getElem hi] at h
  rw [Option.some.inj h]
 rw [hd,List.filterMap_cons]
 cases gE e.2 with
 | none=>simp
 | some c=>simp;omega
theorem NV (F:cW K "_law_deep" "_law_deep" vO f fd) (hm:mg "_law_deep"=some (.ref f)) (bK:mg "len"=none) (mZ:mg "max"=none) (iE:Callee P w K mg base 7 "_law_ends" (oU 6) []):Callee P w K mg base 8 "_law_deep" JP []:=by
 refine bF F hm jH (kP fun _ _ _ _ _ _ _ _=>rfl) (aD (p8 2 jH.nd true ["item"] 1 [] (c9 (uv 1)) (aN (k:=1) 0 (by dsimp only [cJ];decide +kernel)) iS (aG (uv 0) aF))
 (aD (aO 3 jH.nd aF)
 (aD (cS (c9 (aR iE (aA (uv 0) (aA (aY aB) aB)))) (eJ (n:=2) (bB (aN (k:=1000) 4 jH.nd) (bB (aN (k:=1000) 5 jH.nd) dH)))
 (aE (b6 (b8 c7 (aG (uv 5) aF) cR)
 (aE (aO 3 jH.nd (dA wR mZ (aA (uv 3) (aA (bL (own:=false) (dA dW bK (aA (uv 4) aB)) (vS (uv 2) (aA aF aB))) aB)))))
 (aE (aO 3 jH.nd (dA wR mZ (aA (uv 3) (aA (bL (own:=false) (dA dW bK (aA (uv 4) aB)) aF) aB))))))))
 (aE (aV (uv 3)))))) ?_
 rintro us M Q ⟨p,tk,rfl,hd,htk,hh4,hdp,q⟩
 refine ⟨rfl,?_⟩
 simp_all? only [eO,bJ,hName]
 refine eI (S:=⟨none,tk.map It.toU⟩) (M1:=M) ((tk.map It.deep).map U.int) (fun R r=>by simp_all! only [aW,bE,cQ,aX,cG,aZ,dF,fC,fB];exact r) (by simp) (small (by show (tk.map It.toU).length<=_;rw [List.length_map];omega)) (fun a e=>by cases e) ?_ ?_
 ·intro j x y hx hy M' _ R r'
  have hx':(tk.map It.toU)[j]?=some x:=hx
  rw [List.getElem?_map] at hx'
  rw [List.getElem?_map,List.getElem?_map] at hy
  cases hj:tk[j]? with
  | none=>rw [hj] at hx';cases hx'
  | some it =>
   rw [hj] at hx' hy
   cases hx';cases hy
   dsimp? only [rQ,Tu]
   exact r'
 ·intro pi hpi
  refine cP (S:=⟨none,(bD p []).map cM⟩) (M1:=mup M pi (.lst ((tk.map It.deep).map U.int))) (fun R r=>by simp_all! only [aW,bE,cQ,aX,cG,aZ,dF,fC,fB];exact ⟨p,[],rfl,hd,by decide,by decide,r⟩)
   (fun i τ Mi=>∃ (ns:List Int) (dd:Int) (a b:Option U),τ=[some p.toU,some (.lst (tk.map It.toU)),some (.ref pi),some (.int dd),a,b]/\Mi=mup M pi (.lst (ns.map U.int))/\ns.length=(((bD p []).drop i).filterMap fun e=>gE e.2).length/\(∀ n∈ns,0<=n)/\0<=dd)
   ⟨tk.map It.deep,0,none,none,rfl,rfl,?_,(fun n hn=>by obtain ⟨i,hi,rfl⟩:=List.mem_map.mp hn;exact hdp i hi),by decide⟩ nk ?_ ?_
  ·have e1:((bD p []).filterMap fun e=>gE e.2)=bQ p:=by
    rw [bQ,<- lE p [],List.filterMap_map];rfl
   rw [List.drop_zero,e1,List.length_map,nN,htk]
  ·rintro i x τ Mi e ⟨ns,dd,a,b,rfl,rfl,hnl,hn0,hdd⟩
   have e':((bD p []).map cM)[i]?=some x:=e
   rw [List.getElem?_map] at e'
   cases hj:(bD p [])[i]? with
   | none=>rw [hj] at e';cases e'
   | some en =>
    rw [hj] at e'
    cases e'
    have hhd:=Hd p i hj
    have hlf:=nG p [] en (List.mem_of_getElem? hj)
    obtain ⟨pl,pt⟩:=en
    cases pt with
    | hole c =>
     have hhd':ns.length=1 + (((bD p []).drop (i + 1)).filterMap fun e=>gE e.2).length:=by rw [hnl,hhd];rfl
     cases ns with
     | nil=>simp at hhd';omega
     | cons n0 nr =>
      have g0:=hn0 n0 List.mem_cons_self
      simp_all! only [cM,aU,Pt.toU,bY,bT,bZ,b5,bX,b7,bU,bV,bM,cB,eO,jI,cN,cT,rL,bJ,hName,i5,oS,sA,bE,cQ,aX,cG,aZ,dF,fC,fB]
      refine ⟨eN,Ih aI ?_⟩
      simp_all! only [bV,bM,cB,eO,jI,cN,cT,rL,bJ,hName,i5,oS,sA,bE,cQ,aX,cG,aZ,dF,fC,fB]
      refine ⟨nr,_,_,_,rfl,rfl,by simp only [List.length_cons] at hhd';omega,fun n hn=>hn0 n (List.mem_cons_of_mem _ hn),?_⟩
      split <;> omega
    | any =>
     have hhd':ns.length=(((bD p []).drop (i + 1)).filterMap fun e=>gE e.2).length:=by rw [hnl,hhd];simp [gE]
     dsimp? only [cM,aU,Pt.toU,bY,bT,bZ,b5,bX,b7,bU]
     refine ⟨ns,_,_,_,rfl,rfl,hhd',hn0,?_⟩
     split <;> omega
    | fr l h =>
     have hhd':ns.length=(((bD p []).drop (i + 1)).filterMap fun e=>gE e.2).length:=by rw [hnl,hhd];simp [gE]
     dsimp? only [cM,aU,Pt.toU,bY,bT,bZ,b5,bX,b7,bU]
     refine ⟨ns,_,_,_,rfl,rfl,hhd',hn0,?_⟩
     split <;> omega
    | turn a=>cases hlf
    | two o a b=>cases hlf
  ·rintro τ Mi ⟨ns,dd,a,b,rfl,rfl,hnl,hn0,hdd⟩
   dsimp? only [true_and]
   exact ⟨_,M,(Sub.refl M).mup hpi,.inl rfl,q dd hdd⟩
noncomputable def pP (tl:Tl):U:=.tup [tl.toU,yJ tl.pt]
noncomputable def lZ (tiles:List Tl):U:=.lst (tiles.map pP)
theorem Gk {tiles:List Tl} {k:Int} (h0:0<=k) (h1:k < tiles.length):∃ tl,tl∈tiles/\tiles[k.toNat]?=some tl/\cK (tiles.map pP) k=some (pP tl):=by
 have hlt:k.toNat < tiles.length:=by omega
 have e:((k.toNat:Nat):Int)=k:=by omega
 have e1:tiles[k.toNat]?=some tiles[k.toNat]:=List.getElem?_eq_getElem hlt
 have a2:=fP (xs:=tiles.map pP) (j:=k.toNat) (v:=pP tiles[k.toNat]) (by rw [List.getElem?_map,e1];rfl)
 rw [e] at a2
 exact ⟨tiles[k.toNat],List.getElem_mem hlt,e1,a2⟩
theorem Cj:∀ ts:List Tr,∃ N,∀ x∈ts,x.dep<=N
 | []=>⟨0,fun x h=>by cases h⟩
 | t :: ts=>by
  obtain ⟨N,h⟩:=Cj ts
  exact ⟨t.dep + N,fun x hx=>by rcases List.mem_cons.mp hx with rfl | hx;omega;have:=h x hx;omega⟩
theorem OA (tl:Tl):∃ z r,tl.pt.toU=.tup (.str z :: r)/\decide (z=Str.ofString "at")=tl.pass:=by
 obtain ⟨nm,cl,pt,co⟩:=tl
 cases pt with
 | hole c=>exact ⟨_,_,rfl,by simp [Tl.pass]⟩
 | any=>exact ⟨_,_,rfl,by simp [Tl.pass,bY,bT,bZ,b5,bX,b7,bU]⟩
 | fr l h=>exact ⟨_,_,rfl,by simp [Tl.pass,bY,bT,bZ,b5,bX,b7,bU]⟩
 | turn a=>exact ⟨_,_,rfl,by simp [Tl.pass,bY,bT,bZ,b5,bX,b7,bU]⟩
 | two o a b=>exact ⟨_,_,rfl,by simp [Tl.pass,bY,bT,bZ,b5,bX,b7,bU]⟩
noncomputable def HX:c8:=fun us M Q=>∃ (ss:List Str) (tiles:List Tl) (n seed:Int) (p:Addr) (its:List It),us=[lZ tiles,.int n,.int seed,.ref p,.int 40]/\Table ss tiles/\0<=n/\n < tiles.length/\M p=some (.lst (its.map It.toU))/\its.length<=1000/\(∀ i∈its,Inv ss tiles i)/\Q (.bl false) M /\
 ∀ (tl:Tl) (it:It),tiles[n.toNat]?=some tl->(bQ tl.pt).length<=its.length->Inv ss tiles it->Q (.bl true) (mup M p (.lst ((its.take (its.length - (bQ tl.pt).length)++[it]).map It.toU)))
theorem RB (F:cW K "_law_lay" "_law_lay" wK f fd) (hm:mg "_law_lay"=some (.ref f)) (bK:mg "len"=none) (l5:mg "sum"=none) (Hn:Callee P w K mg base 1 "_law_fits" K8 []) (v7:Callee P w K mg base 7 "_law_bulk" (xZ 6) []) (HC:Callee P w K mg base 8 "_law_deep" JP []) (iE:Callee P w K mg base 7 "_law_ends" (oU 6) []) (Fj:Callee P w K mg base 2 "_law_borne" EW []) (wA:Callee P w K mg base 7 "_law_laid" (tT 6) []):Callee P w K mg base 9 "_law_lay" HX []:=by
 refine bF F hm eF (SS fun _ _ _ _ _ _ _ _ _ _ _=>rfl) (aD (DK (aG (uv 0) (uv 1)) (eJ (n:=2) (bB (aN (k:=1000) 5 eF.nd) (bB (aN (k:=1000) 6 eF.nd) dH))))
 (aD (b6 (wN (jQ (aR Hn (aA (uv 5) (aA (uv 3) (aA (uv 6) aB))))))
 (aE (aV m8))
 bI)
 (aD (aO 7 eF.nd (lM (own:=false) (uv 3) (jU (oT (dA dW bK (aA (uv 3) aB)) (dA dW bK (aA (uv 6) aB)))) k0))
 (aD (aO 8 eF.nd (bL (own:=false) (aR v7 (aA (aG (uv 5) aF) aB)) (dA NA l5 (aA (jR false ["item"] 1 [] (c9 (uv 7)) (aN (k:=1) 0 (by dsimp only [cJ];decide +kernel)) iS (aG (uv 0) aF)) aB))))
 (aD (aO 9 eF.nd (aR HC (aA (aG (uv 5) aF) (aA (uv 7) aB))))
 (aD (b6 (m7.pt (C0 (b8 xP (uv 8) (uv 4)) (DO (b8 xP (uv 9) aF))))
 (aE (aV m8))
 bI)
 (aD (aO 10 eF.nd (aR Fj (aA (aR iE (aA (aG (uv 5) aF) (aA (aY aB) aB))) (aA (uv 2) aB))))
 (aD (aO 11 eF.nd (aR wA (aA (aG (uv 5) aF) (aA (uv 10) (aA (jR true ["item"] 1 [] (c9 (uv 7)) (aN (k:=1) 0 (by dsimp only [cJ];decide +kernel)) iS (aG (uv 0) aF)) aB)))))
 (aD (aO 12 eF.nd (cX (own:=false) (aA (uv 1) aB)))
 (aD (cS (c9 (uv 7)) (aN (k:=1000) 13 eF.nd)
 (aE (aO 12 eF.nd (bL (own:=false) (uv 12) (aG (uv 13) aF)))))
 (aD (aO 14 eF.nd (aY (aA (aG (uv 5) aF) aB)))
 (aD (b6 (b8 c7 (aG (aG (uv 5) aF) aF) cR)
 (aE (aO 14 eF.nd (bL (own:=false) (uv 14) (aG (aG (uv 7) aF) aF))))
 bI)
 (aD (Fd (cX (own:=true) (aA (aY (aA (aG (uv 5) aF) (aA (uv 11) (aA (uv 12) (aA (uv 14) (aA (uv 8) (aA (uv 9) aB))))))) aB)) (uv 3) (oT (dA dW bK (aA (uv 3) aB)) (dA dW bK (aA (uv 6) aB))))
 (aE (aV m8))))))))))))))) ?_
 rintro us M Q ⟨ss,tiles,n,seed,p,its,rfl,hT,hn0,hn1,hM,hil,hI,qf,qt⟩
 refine ⟨rfl,?_⟩
 have no:kD Q (.bl false) M:=aS qf
 obtain ⟨tl,htm,hget,hat⟩:=Gk hn0 hn1
 have hg:=hT.good tl htm
 have hdep:=hg.dep
 have hh4:=hg.holes
 have hvw:=gF hM
 have hal:=nN tl.pt
 simp_all? only [eO,bJ,bV,bM,cB,hName,lZ,hat,pP]
 simp_all? only [jI]
 refine ⟨tl,p,its,rfl,hM,hh4,fun b hb=>?_⟩
 cases b with
 | false =>
  simp_all? only [cT]
  exact no
 | true =>
  have hf:=hb rfl
  have hcut:iB (its.map It.toU) (some ((its.length:Int) - ((bQ tl.pt).length:Int))) none=(cI tl its).map It.toU:=by
   rw [Af (its.map It.toU) its.length (bQ tl.pt).length (by rw [List.length_map]) hf.le];exact BW tl its
  have htl:=Cw hf.le
  have hItk:∀ i∈cI tl its,Inv ss tiles i:=fun i hi=>hI i (List.mem_of_mem_drop hi)
  have hqt:=fun it=>qt tl it hget hf.le
  simp_all? only [cN,eO,bJ,hName,yJ,hvw,List.length_map,hcut]
  generalize htk:cI tl its=tk at *
  refine ⟨_,by first | exact at2 | rfl,tl.pt,rfl,by omega,by decide,?_⟩
  have hsm:PySem.SumFits (tk.map It.size):=fits_of (fun x hx=>by
   obtain ⟨i,hi,rfl⟩:=List.mem_map.mp hx
   have h1:=(hItk i hi).lo
   have h2:=(hItk i hi).hi
   omega) (by rw [List.length_map];omega)
  refine eI (S:=⟨none,tk.map It.toU⟩) (M1:=M) ((tk.map It.size).map U.int) (fun R r=>by simp_all! only [aW,bE,cQ,aX,cG,aZ,dF,fC,fB];exact r) (by simp) (small (by show (tk.map It.toU).length<=_;rw [List.length_map];omega)) (fun a e=>by cases e) ?_ ?_
  ·intro j x y hx hy M' _ R r'
   have hx':(tk.map It.toU)[j]?=some x:=hx
   rw [List.getElem?_map] at hx'
   rw [List.getElem?_map,List.getElem?_map] at hy
   cases hj:tk[j]? with
   | none=>rw [hj] at hx';cases hx'
   | some it =>
    rw [hj] at hx' hy
    cases hx';cases hy
    dsimp? only [rQ,Ts]
    exact r'
  ·simp_all? only [true_and]
   refine ⟨tk.map It.size,pV _,hsm,?_⟩
   simp_all? only [iZ]
   refine ⟨tl.pt,tk,rfl,by omega,by omega,hh4,fun i hi=>(hItk i hi).dlo,fun d hd0=>?_⟩
   simp_all? only [jI]
   refine gX (fun _=>?_) (fun hs1=>gX (fun _=>?_) (fun hs2=>?_))
   ·simp_all? only [cT]
    exact no
   ·simp_all? only [cT]
    exact no
   ·have hsz:(tl.pt.bulk:Int) + (tk.map It.size).sum<=40:=by
     have:=of_decide_eq_false (by simpa using hs1:decide ((40:Int) < (tl.pt.bulk:Int) + (tk.map It.size).sum)=false)
     omega
    have zE:d<=40:=by
     have:=of_decide_eq_false (by simpa using hs2:decide ((40:Int) < d)=false)
     omega
    simp_all? only [cN,eO,bJ,hName,iZ]
    refine ⟨tl.pt,[],rfl,by omega,by decide,by decide,?_⟩
    have hel:=kH tl.pt []
    have h2d:2 ^ tl.pt.dep<=2 ^ 6:=Nat.pow_le_pow_right (by decide) (by omega)
    refine ⟨bD tl.pt [],seed,rfl,by omega,pQ tl.pt [] (hg.pt.ok hT.ok),fun bs b hb hbo=>?_⟩
    rw [lE] at hbo
    have npb:p≠b:=fun z=>by subst z;rw [hM] at hb;cases hb
    refine eI (S:=⟨none,tk.map It.toU⟩) (M1:=mup M b (.lst bs)) (tk.map fun i=>i.tree.toU) (fun R r=>by simp_all! only [aW,bE,cQ,aX,cG,aZ,dF,fC,fB];exact r) (by simp) (small (by show (tk.map It.toU).length<=_;rw [List.length_map];omega)) (fun a e=>by cases e) ?_ ?_
    ·intro j x y hx hy M' _ R r'
     have hx':(tk.map It.toU)[j]?=some x:=hx
     rw [List.getElem?_map] at hx' hy
     cases hj:tk[j]? with
     | none=>rw [hj] at hx';cases hx'
     | some it =>
      rw [hj] at hx' hy
      cases hx';cases hy
      dsimp? only [rQ]
      exact r'
    ·intro t ht
     have ntb:t≠b:=fun z=>by subst z;rw [aI] at ht;cases ht
     have ht':M t=none:=by rw [aK ntb] at ht;exact ht
     have npt:p≠t:=fun z=>by subst z;rw [hM] at ht';cases ht'
     obtain ⟨N,hN⟩:=Cj (tk.map It.tree)
     refine ⟨N,tl.pt,b,t,bs,[],[],tk.map It.tree,rfl,by omega,ntb.symm,by rw [aK ntb.symm,aI,List.append_nil],by rw [aI,List.append_nil,List.map_map];rfl,hbo,by rw [List.length_map];omega,fun x hx=>⟨?_,hN x hx⟩,fun r M' r1 r2 r3 r4 m1 m2 m3=>?_⟩
     ·obtain ⟨i,hi,rfl⟩:=List.mem_map.mp hx
      exact (hItk i hi).tree
     have mp:M' p=some (.lst (its.map It.toU)):=by rw [m3 p npb npt,aK npt,aK npb];exact hM
     have hinv:=Lq (d:=d) hT hn0 hn1 hget hI hf r3 (by rw [htk];exact r4.2) r1 (by rw [htk];exact hsz) hd0 zE
     rw [htk] at hinv
     have hS:∀ x o,M x=some o->x≠p->M' x=some o:=fun x o hx hxp=>by
      have x1:x≠b:=fun z=>by subst z;rw [hb] at hx;cases hx
      have x2:x≠t:=fun z=>by subst z;rw [ht'] at hx;cases hx
      rw [m3 x x1 x2,aK x2,aK x1];exact hx
     clear m1 m2 m3 hN r4 hbo
     simp_all? only [eO,bJ,hName]
     refine cP (S:=⟨none,tk.map It.toU⟩) (M1:=M') (fun R r=>by simp_all! only [aW,bE,cQ,aX,cG,aZ,dF,fC,fB];exact r)
      (fun i τ Mi=>∃ (a:Option U),τ=[some (.lst (tiles.map pP)),some (.int n),some (.int seed),some (.ref p),some (.int 40),some tl.toU,some (.lst ((bQ tl.pt).map U.str)),some (.lst (tk.map It.toU)),some (.int ((tl.pt.bulk:Int) + (tk.map It.size).sum)),some (.int d),some (.ref b),some r.toU,some (yA (n :: (tk.take i).flatMap It.word)),a,none]/\Mi=M')
      ⟨none,rfl,rfl⟩ nk ?_ ?_
     ·rintro i x τ Mi e ⟨a,rfl,rfl⟩
      have e':(tk.map It.toU)[i]?=some x:=e
      rw [List.getElem?_map] at e'
      cases hj:tk[i]? with
      | none=>rw [hj] at e';cases e'
      | some it =>
       rw [hj] at e'
       cases e'
       have hi:=(List.getElem?_eq_some_iff.mp hj).1
       have hfm:(tk.take (i + 1)).flatMap It.word=(tk.take i).flatMap It.word++it.word:=by
        rw [List.take_add_one,hj];simp
       have hwl:((tk.take i).flatMap It.word).length<=10000:=by
        have h1:=zZ hT.len (tk.take i) fun x hx=>hItk x (List.mem_of_mem_take hx)
        have h2:=(Du 200 ((tk.take i).map It.size) fun x hx=>by
         obtain ⟨j,hj,rfl⟩:=List.mem_map.mp hx
         have g:=hItk j (List.mem_of_mem_take hj)
         have g1:=g.lo;have g2:=g.hi
         omega).2
        have h3:((tk.take i).map It.size).length<=4:=by rw [List.length_map,List.length_take];omega
        omega
       have hw2:=(hItk it (List.mem_of_getElem? hj)).wlen hT.len
       dsimp? only [yA,rQ]
       refine ⟨small (by simp only [List.length_map,List.length_cons];omega),some it.toU,?_⟩
       rw [hfm]
       simp [yA]
       try rfl
     ·rintro τ Mi ⟨a,rfl,rfl⟩
      have hfl:tk.take (Src.mk none (tk.map It.toU)).xs.length=tk:=by
       show tk.take (tk.map It.toU).length=tk
       rw [List.length_map];exact List.take_length
      rw [hfl]
      obtain ⟨z,rr,ez,hz⟩:=OA tl
      have nsl:∀ x:Addr,Mi x=none->x≠p:=fun x hx e=>by subst e;rw [mp] at hx;cases hx
      have fin:∀ (x:Addr),Mi x=none->kD Q (.bl true) (mup (mup Mi x (.lst [It.toU ⟨tl.cls,r,n :: tk.flatMap It.word,fO tl tk,(tl.pt.bulk:Int) + (tk.map It.size).sum,d⟩])) p (.lst ((its.map It.toU).take (its.length - (bQ tl.pt).length)++[It.toU ⟨tl.cls,r,n :: tk.flatMap It.word,fO tl tk,(tl.pt.bulk:Int) + (tk.map It.size).sum,d⟩]))):=fun x hx=>by
       refine ⟨.bl true,_,fun y o hy=>?_,.inl rfl,hqt _ hinv⟩
       by_cases hyp:y=p
       ·subst hyp
        rw [aI] at hy ⊢
        rw [<- hy,List.map_append,List.map_take];rfl
       ·rw [aK hyp] at hy ⊢
        have h1:=hS y o hy hyp
        have h2:y≠x:=fun e=>by subst e;rw [hx] at h1;cases h1
        rw [aK h2];exact h1
      cases hp:tl.pass with
      | true =>
       have hone:tk.length=1:=by
        rw [htl]
        obtain ⟨nm,cl,pt,co⟩:=tl
        cases pt <;> first | rfl | (cases hp)
       obtain ⟨i0,e0⟩:=List.length_eq_one_iff.mp hone
       have g6:=(hItk i0 (by rw [e0];exact List.mem_cons_self)).seen6 hT.len
       have ate:cK (tk.map It.toU) 0=some i0.toU:=by rw [e0];exact zA
       rw [hp] at hz
       simp_all! only [eO,bJ,hName,iZ,ez,jI,hz,ate,rQ,aW,bE,cQ,aX,cG,dF,fC,fB]
       refine ⟨small (by simp;omega),?_⟩
       simp_all? only [cT,eO,iZ]
       intro x hx
       have nxp:=nsl x hx
       have mp2:∀ X,mup Mi x X p=some (.lst (its.map It.toU)):=fun X=>by rw [aK nxp.symm];exact mp
       have vw2:∀ X,view (mup Mi x X) (.ref p)=.lst (its.map It.toU):=fun X=>gF (mp2 X)
       have hfin:=fin x hx
       have hns:fO tl tk=tl.cls :: i0.seen:=by unfold fO;rw [hp,e0];rfl
       rw [hns] at hfin
       have htn:((its.length:Int) - ((bQ tl.pt).length:Int)).toNat=its.length - (bQ tl.pt).length:=by omega
       simp_all! only [mp2,vw2,List.length_map,htn,aW,bE,cQ,aX,cG,dF,fC,fB]
       refine ⟨nxp.symm,by have:=hf.le;omega,by omega,small (by omega),?_⟩
       first | exact hfin | simpa [It.toU] using hfin
      | false =>
       rw [hp] at hz
       simp_all! only [eO,bJ,hName,iZ,ez,jI,hz,cN,aW,bE,cQ,aX,cG,dF,fC,fB]
       simp_all? only [cT,eO,iZ]
       intro x hx
       have nxp:=nsl x hx
       have mp2:∀ X,mup Mi x X p=some (.lst (its.map It.toU)):=fun X=>by rw [aK nxp.symm];exact mp
       have vw2:∀ X,view (mup Mi x X) (.ref p)=.lst (its.map It.toU):=fun X=>gF (mp2 X)
       have hfin:=fin x hx
       have hns:fO tl tk=[tl.cls]:=by unfold fO;rw [hp];rfl
       rw [hns] at hfin
       have htn:((its.length:Int) - ((bQ tl.pt).length:Int)).toNat=its.length - (bQ tl.pt).length:=by omega
       simp_all! only [mp2,vw2,List.length_map,htn,aW,bE,cQ,aX,cG,dF,fC,fB]
       refine ⟨nxp.symm,by have:=hf.le;omega,by omega,small (by omega),?_⟩
       first | exact hfin | simpa [It.toU] using hfin
noncomputable def SW:Option MO->Nat
 | some (.lst us)=>us.length
 | _=>0
noncomputable def SX:Option (Option U)->Nat
 | some (some (.bl true))=>1
 | _=>0
theorem DW {M:aH} {p:Addr} {o:MO} (h:M p=some o):mup M p o=M:=by
 funext x
 by_cases e:x=p
 ·subst e;rw [aI,h]
 ·rw [aK e]
noncomputable def Es:c8:=fun us M Q=>∃ (ss:List Str) (tiles:List Tl) (first seed:Int) (p:Addr) (its:List It),us=[lZ tiles,.int first,.int seed,.ref p,.int 40]/\Table ss tiles/\M p=some (.lst (its.map It.toU))/\its.length<=1000/\(∀ i∈its,Inv ss tiles i) /\
 ∀ (b:Bool) (its':List It),(∀ i∈its',Inv ss tiles i)->its'.length<=its.length + 1->Q (.bl b) (mup M p (.lst (its'.map It.toU)))
theorem GD {ss:List Str} {tiles:List Tl} {its:List It} {it:It} {k:Nat} (hI:∀ i∈its,Inv ss tiles i) (h:Inv ss tiles it):∀ i∈its.take k++[it],Inv ss tiles i:=fun i hi=>by
 rcases List.mem_append.mp hi with hi | hi
 ·exact hI i (List.mem_of_mem_take hi)
 ·cases List.mem_singleton.mp hi;exact h
theorem G4 (F:cW K "_law_lay_one" "_law_lay_one" pH f fd) (hm:mg "_law_lay_one"=some (.ref f)) (bK:mg "len"=none) (dB:mg "range"=none) (w4:Callee P w K mg base 9 "_law_lay" HX []):Callee P w K mg base 10 "_law_lay_one" Es []:=by
 refine bF F hm tV (SS fun _ _ _ _ _ _ _ _ _ _ _=>rfl) (aD (cS (qC dB (aA (dA dW bK (aA (uv 0) aB)) aB)) (aN (k:=1000) 5 tV.nd)
 (aE (b6 (jQ (aR w4 (aA (uv 0) (aA (bO (bL (own:=false) (uv 1) (uv 5)) (dA dW bK (aA (uv 0) aB))) (aA (uv 2) (aA (uv 3) (aA (uv 4) aB)))))))
 (aE (aV m8))
 bI)))
 (aE (aV m8))) ?_
 rintro us M Q ⟨ss,tiles,first,seed,p,its,rfl,hT,hM,hil,hI,q⟩
 refine ⟨rfl,?_⟩
 have hln:0 < (tiles.length:Int):=by have:=List.length_pos_iff.mpr hT.some;omega
 have hmany:=hT.many
 simp_all? only [eO]
 refine cP (S:=⟨none,cH 0 tiles.length⟩) (M1:=M) (fun R r=>by simp_all! only [lZ,List.length_map,aW,bE,cQ,aX,cG,aZ,dF,fC,fB];exact ⟨by omega,by omega,r⟩)
  (fun i τ Mi=>∃ a:Option U,τ=[some (lZ tiles),some (.int first),some (.int seed),some (.ref p),some (.int 40),a]/\Mi=M) ⟨none,rfl,rfl⟩ nk ?_ ?_
 ·rintro i x τ Mi e ⟨a,rfl,rfl⟩
  obtain ⟨rfl,hi⟩:=jF e
  dsimp? only [lZ,List.length_map]
  refine ⟨hln,ss,tiles,_,seed,p,its,rfl,hT,Int.emod_nonneg _ (by omega),Int.emod_lt_of_pos _ hln,hM,hil,hI,?_,fun tl it hget hle hit=>?_⟩
  ·dsimp? only [true_and]
   exact ⟨_,rfl⟩
  ·dsimp? only [true_and]
   exact aS (q true _ (GD hI hit) (by first | (simp;done) | (simp;omega)))
 ·rintro τ Mi ⟨a,rfl,rfl⟩
  dsimp? only [true_and]
  have:=q false its hI (by omega)
  rw [DW hM] at this
  exact aS this
noncomputable def Ga:c8:=fun us M Q=>∃ (ss:List Str) (tiles:List Tl) (cells:List Int),us=[.tup (tiles.map Tl.toU),.lst (cells.map .int),.int 40]/\Table ss tiles/\cells.length<=70/\∀ its:List It,(∀ i∈its,Inv ss tiles i)->Q (.lst (its.map It.toU)) M
theorem LU (F:cW K "_law_stack" "_law_stack" tL f fd) (hm:mg "_law_stack"=some (.ref f)) (bK:mg "len"=none) (dB:mg "range"=none) (Iq:Callee P w K mg base 8 "_law_asks" JD []) (lQ:Callee P w K mg base 2 "_law_draws" yR []) (w4:Callee P w K mg base 9 "_law_lay" HX []) (CF:Callee P w K mg base 10 "_law_lay_one" Es []):Callee P w K mg base 11 "_law_stack" Ga []:=by
 refine bF F hm eP (zG fun _ _ _ _ _ _ _ _ _=>rfl) (aD (aO 3 eP.nd (cX (own:=true) aB))
 (aD (p8 4 eP.nd false ["tile"] 1 [] (c9 (uv 0)) (aN (k:=1) 0 (by dsimp only [cJ];decide +kernel)) iS (aY (aA (uv 0) (aA (aR Iq (aA (aG (uv 0) aF) aB)) aB))))
 (aD (cS (c9 (uv 1)) (aN (k:=1000) 5 eP.nd)
 (aD (aO 6 eP.nd (aR lQ (aA (uv 5) (aA aF aB))))
 (aE (cS (qC dB (aA aF aB)) (aN (k:=1000) 7 eP.nd)
 (aE (e6 (aR CF (aA (uv 4) (aA (aG (uv 6) (gH (own:=false) aF (uv 7))) (aA (aG (uv 6) (bL (own:=false) (gH (own:=false) aF (uv 7)) aF)) (aA (uv 3) (aA (uv 2) aB))))))))))))
 (aD (aO 8 eP.nd m8)
 (aD (u9 (jQ (uv 8))
 (aD (aO 8 eP.nd m8)
 (aE (cS (qC dB (aA (dA dW bK (aA (uv 4) aB)) aB)) (aN (k:=1000) 9 eP.nd)
 (aE (b6 (m7.pt (kM (b8 xP (dA dW bK (aA (aG (aG (uv 4) (uv 9)) aF) aB)) aF) (mJ (jQ (aR w4 (aA (uv 4) (aA (uv 9) (aA (uv 9) (aA (uv 3) (aA (uv 2) aB))))))))))
 (aE (aO 8 eP.nd m8))
 bI))))))
 (aE (aV (uv 3)))))))) ?_
 rintro us M Q ⟨ss,tiles,cells,rfl,hT,hcl,q⟩
 refine ⟨rfl,?_⟩
 have hln:0 < (tiles.length:Int):=by have:=List.length_pos_iff.mpr hT.some;omega
 have hmany:=hT.many
 simp_all? only [eO,bJ,hName]
 intro p hp
 have fin:∀ (its:List It),(∀ i∈its,Inv ss tiles i)->kD Q (.ref p) (mup M p (.lst (its.map It.toU))):=fun its hI =>
  ⟨_,M,(Sub.refl M).mup hp,.inr ⟨p,_,rfl,aI,hp,rfl⟩,q its hI⟩
 refine eI (S:=⟨none,tiles.map Tl.toU⟩) (M1:=mup M p (.lst [])) (tiles.map pP) (fun R r=>by simp_all! only [aW,bE,cQ,aX,cG,aZ,dF,fC,fB];exact r) (by simp) (small (by show (tiles.map Tl.toU).length<=_;rw [List.length_map];omega)) (fun a e=>by cases e) ?_ ?_
 ·intro j x y hx hy M' _ R r'
  have hx':(tiles.map Tl.toU)[j]?=some x:=hx
  rw [List.getElem?_map] at hx' hy
  cases hj:tiles[j]? with
  | none=>rw [hj] at hx';cases hx'
  | some tl =>
   rw [hj] at hx' hy
   cases hx';cases hy
   have hg:=hT.good tl (List.mem_of_getElem? hj)
   have hdp:=hg.dep
   dsimp? only [iZ]
   exact ⟨tl.pt,rfl,by omega,r'⟩
 ·simp only [jL]
  refine cP (S:=⟨none,cells.map U.int⟩) (M1:=mup M p (.lst [])) (fun R r=>by simp_all! only [aW,bE,cQ,aX,cG,aZ,dF,fC,fB];exact r)
   (fun i τ Mi=>∃ (its:List It) (a b c:Option U),τ=[some (.tup (tiles.map Tl.toU)),some (.lst (cells.map .int)),some (.int 40),some (.ref p),some (lZ tiles),a,b,c,none,none]/\Mi=mup M p (.lst (its.map It.toU))/\(∀ i∈its,Inv ss tiles i)/\its.length<=3 * i)
   ⟨[],none,none,none,rfl,rfl,(fun i h=>by cases h),by simp⟩ nk ?_ ?_
  ·rintro i x τ Mi e ⟨its,a,b,c,rfl,rfl,hI,hl⟩
   have hi:i < 70:=by
    have:=(List.getElem?_eq_some_iff.mp e).1
    simp at this;omega
   obtain ⟨n,rfl⟩:∃ n,x=U.int n:=by
    obtain ⟨c,_,e⟩:=List.mem_map.mp (List.mem_of_getElem? e)
    exact ⟨c,e.symm⟩
   simp_all? only [eO,bJ,hName]
   refine ⟨n,6,rfl,by decide,fun l hl6 hpos=>?_⟩
   refine cP (S:=⟨none,cH 0 3⟩) (M1:=mup M p (.lst (its.map It.toU))) (fun R r=>by simp_all! only [aW,bE,cQ,aX,cG,aZ,dF,fC,fB];exact ⟨by decide,by decide,r⟩)
    (fun j τ Mi=>∃ (its':List It) (c:Option U),τ=[some (.tup (tiles.map Tl.toU)),some (.lst (cells.map .int)),some (.int 40),some (.ref p),some (lZ tiles),some (.int n),some (.lst (l.map .int)),c,none,none]/\Mi=mup M p (.lst (its'.map It.toU))/\(∀ i∈its',Inv ss tiles i)/\its'.length<=3 * i + j)
    ⟨its,_,rfl,rfl,hI,by omega⟩ nk ?_ ?_
   ·rintro j x τ Mi e ⟨its',c,rfl,rfl,hI',hl'⟩
    obtain ⟨rfl,hj⟩:=jF e
    have b1:cK (l.map U.int) (2 * (0 + (j:Int)))=some (.int l[2 * j]):=by
     rw [show (2:Int) * (0 + (j:Int))=((2 * j:Nat):Int) by omega];exact hJ l (2 * j) (by omega)
    have b2:cK (l.map U.int) (2 * (0 + (j:Int)) + 1)=some (.int l[2 * j + 1]):=by
     rw [show (2:Int) * (0 + (j:Int)) + 1=((2 * j + 1:Nat):Int) by omega];exact hJ l (2 * j + 1) (by omega)
    dsimp? only [b1,b2]
    refine ⟨mulL (by decide) (by decide),mulL (by decide) (by decide),ss,tiles,_,_,p,its',rfl,hT,aI,by omega,hI',fun b its2 h2 h3=>?_⟩
    dsimp? only [true_and]
    exact ⟨its2,_,rfl,rfl,h2,by omega⟩
   ·rintro τ Mi ⟨its',c,rfl,rfl,hI',hl'⟩
    rw [fJ] at hl'
    exact ⟨its',_,_,_,rfl,rfl,hI',by omega⟩
  ·rintro τ Mi ⟨its,a,b,c,rfl,rfl,hI,hl⟩
   have hl2:its.length<=210:=by
    have:(Src.mk none (cells.map U.int)).xs.length=cells.length:=by simp
    omega
   simp_all? only [eO,bJ,hName]
   refine uE (fun τ Mi=>∃ (its:List It) (ag:Bool) (a b c d:Option U),τ=[some (.tup (tiles.map Tl.toU)),some (.lst (cells.map .int)),some (.int 40),some (.ref p),some (lZ tiles),a,b,c,some (.bl ag),d]/\Mi=mup M p (.lst (its.map It.toU))/\(∀ i∈its,Inv ss tiles i)/\its.length<=210)
    (fun τ Mi=>2 * SW (Mi p) + SX (τ[8]?)) ⟨its,true,a,b,c,none,rfl,rfl,hI,hl2⟩ ?_
   rintro τ Mi ⟨its,ag,a,b,c,d,rfl,rfl,hI,hl⟩
   simp_all? only [true_and]
   cases ag with
   | false =>
    simp_all? only [cT]
    exact fin its hI
   | true =>
    simp_all? only [eO,bJ,hName]
    refine cP (S:=⟨none,cH 0 tiles.length⟩) (M1:=mup M p (.lst (its.map It.toU))) (fun R r=>by simp_all! only [lZ,List.length_map,aW,bE,cQ,aX,cG,aZ,dF,fC,fB];exact ⟨by omega,by omega,r⟩)
     (fun j τ Mi=>∃ (its':List It) (ag:Bool) (d:Option U),τ=[some (.tup (tiles.map Tl.toU)),some (.lst (cells.map .int)),some (.int 40),some (.ref p),some (lZ tiles),a,b,c,some (.bl ag),d]/\Mi=mup M p (.lst (its'.map It.toU))/\(∀ i∈its',Inv ss tiles i)/\its'.length + (if ag then 1 else 0)<=its.length)
     ⟨its,false,d,rfl,rfl,hI,by simp⟩ nk ?_ ?_
    ·rintro j x τ Mi e ⟨its',ag,d,rfl,rfl,hI',hl'⟩
     obtain ⟨rfl,hj⟩:=jF e
     obtain ⟨tl,htm,hget,hat⟩:=Gk (tiles:=tiles) (k:=0 + (j:Int)) (by omega) (by omega)
     dsimp? only [lZ,hat,pP,yJ,List.length_map]
     refine gX (fun h=>?_) (fun h=>?_)
     ·have h1:1 < (bQ tl.pt).length:=by
       have:=of_decide_eq_true h
       omega
      refine ⟨ss,tiles,_,_,p,its',rfl,hT,by omega,by omega,aI,by omega,hI',?_,fun tl2 it hget2 hle hit=>?_⟩
      ·dsimp? only [true_and]
       exact ⟨its',ag,_,rfl,rfl,hI',hl'⟩
      ·rw [hget] at hget2
       cases hget2
       dsimp? only [true_and]
       refine ⟨_,true,_,rfl,rfl,GD hI' hit,?_⟩
       simp only [List.length_append,List.length_take,List.length_cons,List.length_nil,if_true]
       cases ag <;> simp at hl' <;> omega
     ·exact ⟨its',ag,_,rfl,rfl,hI',hl'⟩
    ·rintro τ Mi ⟨its',ag,d,rfl,rfl,hI',hl'⟩
     refine ⟨⟨its',ag,a,b,c,d,rfl,rfl,hI',by omega⟩,?_⟩
     simp only [aI,SW,List.getElem?_cons_succ,List.getElem?_cons_zero,List.length_map]
     cases ag <;> simp [SX] at hl' ⊢ <;> omega
structure Ld where
 n:Nat
 cls:Str
 price:Int
 spots:List (List Nat × Str)
noncomputable def Ld.toU (l:Ld):U:=.tup [.int l.n,.str l.cls,.int l.price,.lst (l.spots.map jK)]
noncomputable def dJ (t:Tr) (p:List Nat):Nat->List Tl->List Ld
 | _,[]=>[]
 | k,tl :: r=>(if bP tl.pt t then [⟨k,tl.cls,tl.cost,(jD tl.pt).map fun e=>(p++e.1,e.2)⟩] else [])++dJ t p (k + 1) r
theorem Ck (t:Tr) (p:List Nat) (tl:Tl):∀ (l:List Tl) (k:Nat),dJ t p k (l++[tl])=dJ t p k l++(if bP tl.pt t then [⟨k + l.length,tl.cls,tl.cost,(jD tl.pt).map fun e=>(p++e.1,e.2)⟩] else [])
 | [],k=>by simp [dJ]
 | a :: l,k=>by
  rw [List.cons_append]
  simp only [dJ]
  rw [Ck t p tl l (k + 1),List.append_assoc,List.length_cons,show k + 1 + l.length=k + (l.length + 1) by omega]
theorem vW (t:Tr) (p:List Nat):∀ (l:List Tl) (k:Nat),(dJ t p k l).length<=l.length
 | [],k=>by simp [dJ]
 | a :: l,k=>by
  have:=vW t p l (k + 1)
  simp only [dJ,List.length_append,List.length_cons]
  split <;> simp <;> omega
noncomputable def Cs:c8:=fun us M Q=>∃ (cs:List Str) (tls:List Tl) (t t':Tr) (p:List Nat),us=[fD cs tls,t.toU,aU p]/\j4 t.toU p=some t'.toU/\(∀ tl∈tls,tl.pt.dep<=6)/\tls.length<=39/\p.length<=1000/\Q (.lst ((dJ t' p 0 tls).map Ld.toU)) M
theorem Fo (F:cW K "tiles_at" "tiles_at" vJ f fd) (hm:mg "tiles_at"=some (.ref f)) (bH:mg "enumerate"=none) (Ji:Callee P w K mg base 3 "tree_at" AG []) (Dd:Callee P w K mg base 9 "lies" (lT 6) []) (Pn:Callee P w K mg base 8 "holes" FP []):Callee P w K mg base 10 "tiles_at" Cs []:=by
 refine bF F hm j8 (zG fun _ _ _ _ _ _ _ _ _=>rfl) (aD (aO 3 j8.nd (aR Ji (aA (uv 1) (aA (uv 2) aB))))
 (aD (aO 4 j8.nd (cX (own:=true) aB))
 (aD (cS (kQ bH (aA (aG (uv 0) aF) aB)) (eJ (n:=2) (bB (aN (k:=1000) 5 j8.nd) (bB (aN (k:=1000) 6 j8.nd) dH)))
 (aE (b6 (jQ (aR Dd (aA (aG (uv 6) aF) (aA (uv 3) aB))))
 (aD (p8 7 j8.nd false ["below","cls","place"] 2 [2] (c9 (aR Pn (aA (aG (uv 6) aF) aB))) (eJ (n:=2) (bB (aN (k:=2) 0 (by dsimp only [cJ];decide +kernel)) (bB (aN (k:=2) 1 (by dsimp only [cJ];decide +kernel)) dH))) iS (aY (aA (bL (own:=false) (uv 2) (uv 0)) (aA (uv 1) aB))))
 (aE (e6 (eM (uv 4) (aA (aY (aA (uv 5) (aA (aG (uv 6) aF) (aA (aG (uv 6) aF) (aA (uv 7) aB))))) aB)))))
 bI)))
 (aE (aV (uv 4)))))) ?_
 rintro us M Q ⟨cs,tls,t,t',p,rfl,hat,hdep,hlen,hpl,q⟩
 refine ⟨rfl,?_⟩
 refine aP fun V hV=>?_
 simp_all? only [bJ,hName]
 refine ⟨t.toU,t'.toU,p,rfl,hat,?_⟩
 subst hV
 refine aP fun V hV=>?_
 simp_all? only [bJ,hName]
 intro r hr
 subst hV
 refine aP fun V hV=>?_
 refine cP (S:=⟨none,numbered (tls.map Tl.toU)⟩) (M1:=mup M r (.lst [])) (fun R r'=>by simp_all! only [jP,aW,bE,cQ,aX,cG,aZ,dF,fC,fB];exact r')
  (fun i τ Mi=>∃ z5 z6 z7:Option U,τ=[some (fD cs tls),some t.toU,some (aU p),some t'.toU,some (.ref r),z5,z6,z7]/\Mi=mup M r (.lst ((dJ t' p 0 (tls.take i)).map Ld.toU))) ⟨none,none,none,rfl,rfl⟩ nk ?_ ?_
 ·rintro i x τ Mi e ⟨z5,z6,z7,rfl,rfl⟩
  obtain ⟨u,hu,rfl⟩:=iY e
  rw [List.getElem?_map] at hu
  cases hj:tls[i]? with
  | none=>rw [hj] at hu;cases hu
  | some tl =>
   rw [hj] at hu
   cases hu
   have hi:=(List.getElem?_eq_some_iff.mp hj).1
   have hd:=hdep tl (List.mem_of_getElem? hj)
   have hh:=Gi tl.pt hd
   have hnext:dJ t' p 0 (tls.take (i + 1))=dJ t' p 0 (tls.take i)++(if bP tl.pt t' then [⟨i,tl.cls,tl.cost,(jD tl.pt).map fun e=>(p++e.1,e.2)⟩] else []):=by
    rw [List.take_add_one,hj]
    have:=Ck t' p tl (tls.take i) 0
    rw [List.length_take,Nat.min_eq_left (Nat.le_of_lt hi),Nat.zero_add] at this
    exact this
   refine ⟨rfl,?_⟩
   simp_all? only [bV,bM,cB,hName]
   refine dY fun A B hA hB=>?_
   simp_all? only [iZ]
   refine ⟨tl.pt,t',rfl,hd,?_⟩
   cases hl:bP tl.pt t' with
   | false =>
    rw [hl] at hnext
    simp only [Bool.false_eq_true,if_false,List.append_nil] at hnext
    simp only [jM,Bool.false_eq_true,if_false]
    subst hB
    simp only [cN]
    exact ⟨_,_,_,rfl,by rw [hnext]⟩
   | true =>
    rw [hl] at hnext
    simp only [if_true] at hnext
    simp only [jM,if_true]
    subst hA
    refine aP fun V1 hV1=>?_
    refine eI (S:=⟨none,(jD tl.pt).map jK⟩) (M1:=mup M r (.lst ((dJ t' p 0 (tls.take i)).map Ld.toU))) (((jD tl.pt).map fun e=>(p++e.1,e.2)).map jK) (fun R r'=>by simp_all! only [iZ,aW,bE,cQ,aX,cG,aZ,dF,fC,fB];exact ⟨tl.pt,rfl,hd,r'⟩) (by simp) (small (by show ((jD tl.pt).map jK).length<=_;rw [List.length_map];omega)) (fun a e=>by cases e) ?_ ?_
    ·intro j x y hx hy M' hS R r'
     have hx':((jD tl.pt).map jK)[j]?=some x:=hx
     rw [List.getElem?_map] at hx' hy
     rw [List.getElem?_map] at hy
     cases hj':(jD tl.pt)[j]? with
     | none=>rw [hj'] at hx';cases hx'
     | some e' =>
      rw [hj'] at hx' hy
      cases hx';cases hy
      have hsh:e'.1.length<=1000:=by
       have h1:=(List.mem_of_getElem? hj')
       have h2:e'.1∈tl.pt.places:=by
        obtain ⟨y,hy1,hy2⟩:=List.mem_filterMap.mp h1
        have h3:y.1∈(cO tl.pt []).map (·.1):=List.mem_map.mpr ⟨y,hy1,rfl⟩
        rw [j5] at h3
        have h4:y.1=e'.1:=by
         obtain ⟨y1,y2⟩:=y
         cases y2 <;> simp [hF] at hy2
         rw [<- hy2]
        rw [h4] at h3
        simpa using h3
       have:=lP tl.pt e'.1 h2
       omega
      simp_all? only [jK,aU,bV,bM,cB,hName]
      refine ⟨small (by rw [List.length_map,List.length_map];omega),?_⟩
      rw [<- List.map_append]
      exact r'
    ·simp_all? only [hName]
     subst hV1
     simp_all? only [i5,iZ]
     have hll:=vW t' p (tls.take i) 0
     rw [List.length_take] at hll
     refine ⟨eN,big (by rw [List.length_map];omega),_,_,_,rfl,?_⟩
     rw [hnext,List.map_append]
     rfl
 ·rintro τ Mi ⟨z5,z6,z7,rfl,rfl⟩
  rw [iW,List.length_map,List.take_length]
  subst hV
  simp_all? only [cT]
  exact ⟨_,M,(Sub.refl M).mup hr,.inr ⟨r,_,rfl,aI,hr,rfl⟩,q⟩
noncomputable def Tr.at:Tr->List Nat->Option Tr
 | t,[]=>some t
 | .turn a,0 :: r=>a.at r
 | .two _ a _,0 :: r=>a.at r
 | .two _ _ b,1 :: r=>b.at r
 | _,_=>none
theorem o5 (t:Tr):t.at []=some t:=by cases t <;> rfl
theorem qH:∀ (t:Tr) (p:List Nat),p∈t.places->∃ t',t.at p=some t'
 | .turn a,p,h=>by
  simp only [Tr.places,List.mem_cons,List.mem_map] at h
  rcases h with rfl | ⟨q,hq,rfl⟩
  ·exact ⟨_,rfl⟩
  ·exact qH a q hq
 | .two o a b,p,h=>by
  simp only [Tr.places,List.mem_cons,List.mem_append,List.mem_map] at h
  rcases h with rfl | ⟨q,hq,rfl⟩ | ⟨q,hq,rfl⟩
  ·exact ⟨_,rfl⟩
  ·exact qH a q hq
  ·exact qH b q hq
 | .num _,p,h=>by simp [Tr.places] at h;subst h;exact ⟨_,rfl⟩
 | .name _,p,h=>by simp [Tr.places] at h;subst h;exact ⟨_,rfl⟩
theorem mC:∀ (t:Tr) (p:List Nat) (t':Tr),t.at p=some t'->p∈t.places
 | .turn a,[],_,_=>by simp [Tr.places]
 | .two _ a b,[],_,_=>by simp [Tr.places]
 | .num _,[],_,_=>by simp [Tr.places]
 | .name _,[],_,_=>by simp [Tr.places]
 | .turn a,0 :: r,t',h=>by
  have:=mC a r t' h
  simp only [Tr.places,List.mem_cons,List.mem_map]
  exact .inr ⟨r,this,rfl⟩
 | .two _ a b,0 :: r,t',h=>by
  have:=mC a r t' h
  simp only [Tr.places,List.mem_cons,List.mem_append,List.mem_map]
  exact .inr (.inl ⟨r,this,rfl⟩)
 | .two _ a b,1 :: r,t',h=>by
  have:=mC b r t' h
  simp only [Tr.places,List.mem_cons,List.mem_append,List.mem_map]
  exact .inr (.inr ⟨r,this,rfl⟩)
 | .turn _,(n + 1) :: r,_,h=>by simp [Tr.at] at h
 | .two _ _ _,(n + 2) :: r,_,h=>by simp [Tr.at] at h
 | .num _,n :: r,_,h=>by simp [Tr.at] at h
 | .name _,n :: r,_,h=>by simp [Tr.at] at h
theorem AR:∀ (t:Tr) (p:List Nat) (t':Tr),t.at p=some t'->j4 t.toU p=some t'.toU
 | t,[],t',h=>by rw [o5] at h;cases h;rfl
 | .turn a,0 :: r,t',h=>by simp only [j4,Tr.toU,By,Option.bind_some];exact AR a r t' h
 | .two _ a b,0 :: r,t',h=>by simp only [j4,Tr.toU,Bj,Option.bind_some];exact AR a r t' h
 | .two _ a b,1 :: r,t',h=>by simp only [j4,Tr.toU,Bh,Option.bind_some];exact AR b r t' h
 | .turn _,(n + 1) :: r,_,h=>by simp [Tr.at] at h
 | .two _ _ _,(n + 2) :: r,_,h=>by simp [Tr.at] at h
 | .num _,n :: r,_,h=>by simp [Tr.at] at h
 | .name _,n :: r,_,h=>by simp [Tr.at] at h
theorem xH:∀ (t:Tr) (p e:List Nat) (t':Tr),t.at p=some t'->t.at (p++e)=t'.at e
 | t,[],e,t',h=>by rw [o5] at h;cases h;rfl
 | .turn a,0 :: r,e,t',h=>xH a r e t' h
 | .two _ a b,0 :: r,e,t',h=>xH a r e t' h
 | .two _ a b,1 :: r,e,t',h=>xH b r e t' h
 | .turn _,(n + 1) :: r,_,_,h=>by simp [Tr.at] at h
 | .two _ _ _,(n + 2) :: r,_,_,h=>by simp [Tr.at] at h
 | .num _,n :: r,_,_,h=>by simp [Tr.at] at h
 | .name _,n :: r,_,_,h=>by simp [Tr.at] at h
theorem tX:∀ (t:Tr) (p:List Nat) (t':Tr),t.at p=some t'->t'.size<=t.size
 | t,[],t',h=>by rw [o5] at h;cases h;omega
 | .turn a,0 :: r,t',h=>by have:=tX a r t' h;simp only [Tr.size];omega
 | .two _ a b,0 :: r,t',h=>by have:=tX a r t' h;simp only [Tr.size];omega
 | .two _ a b,1 :: r,t',h=>by have:=tX b r t' h;simp only [Tr.size];omega
 | .turn _,(n + 1) :: r,_,h=>by simp [Tr.at] at h
 | .two _ _ _,(n + 2) :: r,_,h=>by simp [Tr.at] at h
 | .num _,n :: r,_,h=>by simp [Tr.at] at h
 | .name _,n :: r,_,h=>by simp [Tr.at] at h
theorem mT:∀ t:Tr,t.places.Pairwise fun x y=>¬ y <+: x
 | .turn a=>by
  simp only [Tr.places]
  refine List.pairwise_cons.mpr ⟨fun y hy=>?_,?_⟩
  ·obtain ⟨q,_,rfl⟩:=List.mem_map.mp hy;simp
  ·rw [List.pairwise_map]
   refine (mT a).imp fun {x y} h h2=>h ?_
   simpa using h2
 | .two o a b=>by
  simp only [Tr.places]
  refine List.pairwise_cons.mpr ⟨fun y hy=>?_,?_⟩
  ·rcases List.mem_append.mp hy with hy | hy
   ·obtain ⟨q,_,rfl⟩:=List.mem_map.mp hy;simp
   ·obtain ⟨q,_,rfl⟩:=List.mem_map.mp hy;simp
  ·refine List.pairwise_append.mpr ⟨?_,?_,fun x hx y hy=>?_⟩
   ·rw [List.pairwise_map]
    refine (mT a).imp fun {x y} h h2=>h ?_
    simpa using h2
   ·rw [List.pairwise_map]
    refine (mT b).imp fun {x y} h h2=>h ?_
    simpa using h2
   ·obtain ⟨q,_,rfl⟩:=List.mem_map.mp hx
    obtain ⟨q',_,rfl⟩:=List.mem_map.mp hy
    simp
 | .num _=>by simp [Tr.places]
 | .name _=>by simp [Tr.places]
noncomputable def vF:Pt->Nat
 | .hole _=>0
 | .any=>1
 | .fr _ _=>1
 | .turn a=>1 + vF a
 | .two _ a b=>1 + (vF a + vF b)
theorem qL:∀ (pt:Pt) (t:Tr) (pre:List Nat),bP pt t=true->∃ bs:List Nat,bs.length=((cO pt pre).filterMap hF).length/\bs.sum + vF pt=t.size/\∀ (i:Nat) (e:List Nat × Str) (b:Nat),((cO pt pre).filterMap hF)[i]?=some e->bs[i]?=some b->∃ s t',e.1=pre++s/\t.at s=some t'/\t'.size=b/\(s=[]->∃ c,pt=.hole c)/\(bS pt t)[i]?=some (t',e.2)
 | .hole c,t,pre,_=>⟨[t.size],rfl,by simp [vF],fun i e b h1 h2=>by
   match i,h1,h2 with
   | 0,h1,h2=>cases h1;cases h2;exact ⟨[],t,by simp,o5 t,rfl,fun _=>⟨c,rfl⟩,by cases t <;> rfl⟩
   | i + 1,h1,h2=>cases h1⟩
 | .any,.name x,pre,_=>⟨[],rfl,rfl,fun i e b h1 h2=>by cases h1⟩
 | .fr l h,.num n,pre,_=>⟨[],rfl,rfl,fun i e b h1 h2=>by cases h1⟩
 | .turn p,.turn a,pre,hl=>by
  obtain ⟨bs,h1,h2,h3⟩:=qL p a (pre++[0]) hl
  refine ⟨bs,by simp only [cO,List.filterMap_cons,hF];exact h1,by simp only [vF,Tr.size];omega,fun i e b he hb=>?_⟩
  simp only [cO,List.filterMap_cons,hF] at he
  obtain ⟨s,t',e1,e2,e3,_,e5⟩:=h3 i e b he hb
  exact ⟨0 :: s,t',by rw [e1];simp,e2,e3,(fun z=>by cases z),e5⟩
 | .two o p q,.two o' a b,pre,hl=>by
  simp only [bP,Bool.and_eq_true] at hl
  obtain ⟨ho,hl1,hl2⟩:=hl
  obtain ⟨bs,h1,h2,h3⟩:=qL p a (pre++[0]) hl1
  obtain ⟨cs,k1,k2,k3⟩:=qL q b (pre++[1]) hl2
  refine ⟨bs++cs,by simp only [cO,List.filterMap_cons,hF,List.filterMap_append,List.length_append,h1,k1],by simp only [List.sum_append,vF,Tr.size];omega,fun i e bb he hb=>?_⟩
  simp only [cO,List.filterMap_cons,hF,List.filterMap_append] at he
  rw [List.getElem?_append] at he hb
  split at he
  ·rename_i hi
   rw [if_pos (by omega)] at hb
   obtain ⟨s,t',e1,e2,e3,_,e5⟩:=h3 i e bb he hb
   have hl1':=(qA p a (pre++[0]) hl1).1
   exact ⟨0 :: s,t',by rw [e1];simp,e2,e3,(fun z=>by cases z),by simp only [bS];rw [List.getElem?_append_left (by omega)];exact e5⟩
  ·rename_i hi
   rw [if_neg (by omega),h1] at hb
   obtain ⟨s,t',e1,e2,e3,_,e5⟩:=k3 _ e bb he hb
   have hl1':=(qA p a (pre++[0]) hl1).1
   exact ⟨1 :: s,t',by rw [e1];simp,e2,e3,(fun z=>by cases z),by simp only [bS];rw [List.getElem?_append_right (by omega),<- hl1'];exact e5⟩
 | .any,.num _,_,h=>by cases h
 | .any,.turn _,_,h=>by cases h
 | .any,.two _ _ _,_,h=>by cases h
 | .fr _ _,.name _,_,h=>by cases h
 | .fr _ _,.turn _,_,h=>by cases h
 | .fr _ _,.two _ _ _,_,h=>by cases h
 | .turn _,.num _,_,h=>by cases h
 | .turn _,.name _,_,h=>by cases h
 | .turn _,.two _ _ _,_,h=>by cases h
 | .two _ _ _,.num _,_,h=>by cases h
 | .two _ _ _,.name _,_,h=>by cases h
 | .two _ _ _,.turn _,_,h=>by cases h
end
end K25
namespace K25
open PySem L2 U2
noncomputable def kR (tl:Tl):Option (Str × Str):=match tl.pt with
 | .hole h=>some (tl.cls,h)
 | _=>none
noncomputable def lC (tls:List Tl):List (Str × Str):=tls.filterMap kR
noncomputable def jW (ps:List (Str × Str)) (f:Str->Int):Nat->List Str->Str->Int
 | 0,_,c=>f c
 | n + 1,seen,c=>f c + (ps.map fun p=>if p.1=c/\p.2 ∉ seen then jW ps f n (seen++[p.2]) p.2 else 0).sum
theorem xJ {α:Type} {g h:α->Int}:∀ (l:List α),(∀ x∈l,g x=h x)->(l.map g).sum=(l.map h).sum
 | [],_=>rfl
 | a :: l,e=>by
  rw [List.map_cons,List.map_cons,List.sum_cons,List.sum_cons,e a List.mem_cons_self,xJ l fun x hx=>e x (List.mem_cons_of_mem _ hx)]
theorem xV {α:Type} {g h:α->Int}:∀ (l:List α),(∀ x∈l,g x<=h x)->(l.map g).sum<=(l.map h).sum
 | [],_=>by simp
 | a :: l,e=>by
  have h1:=e a List.mem_cons_self
  have h2:=xV l fun x hx=>e x (List.mem_cons_of_mem _ hx)
  rw [List.map_cons,List.map_cons,List.sum_cons,List.sum_cons];omega
theorem mI {α:Type} (c:Int):∀ (l:List α),(l.map fun _=>c).sum=l.length * c
 | []=>by simp
 | a :: l=>by
  rw [List.map_cons,List.sum_cons,mI c l,List.length_cons]
  push_cast
  rw [Int.add_mul];omega
theorem Oj {α:Type} (c:Int) {g:α->Int}:∀ (l:List α),(l.map fun x=>c * g x).sum=c * (l.map g).sum
 | []=>by simp
 | a :: l=>by rw [List.map_cons,List.map_cons,List.sum_cons,List.sum_cons,Oj c l,Int.mul_add]
structure Seen (cs seen:List Str):Prop where
 nd:seen.Nodup
 sub:∀ s∈seen,s∈cs
theorem Seen.len {cs seen:List Str} (h:Seen cs seen):seen.length<=cs.length:=rG seen cs h.nd h.sub
theorem Seen.add {cs seen:List Str} {h:Str} (s:Seen cs seen) (hn:h ∉ seen) (hc:h∈cs):Seen cs (seen++[h]):=⟨by
 refine List.nodup_append.mpr ⟨s.nd,by simp,fun a ha b hb=>?_⟩
 cases List.mem_singleton.mp hb
 exact fun z=>hn (z ▸ ha),fun x hx=>by
 rcases List.mem_append.mp hx with hx | hx
 ·exact s.sub x hx
 ·cases List.mem_singleton.mp hx;exact hc⟩
theorem EX {cs:List Str} {ps:List (Str × Str)} (hp:∀ p∈ps,p.2∈cs) (f:Str->Int):∀ (n:Nat) (seen:List Str) (c:Str),Seen cs seen->cs.length<=n + seen.length->jW ps f n seen c=jW ps f (n + 1) seen c
 | 0,seen,c,hs,hl=>by
  have full:∀ p∈ps,¬ (p.1=c/\p.2 ∉ seen):=fun p h z=>by
   have h2:=(hs.add z.2 (hp p h)).len
   rw [List.length_append] at h2
   simp at h2;omega
  simp only [jW]
  have:(ps.map fun p=>if p.1=c/\p.2 ∉ seen then f p.2 else 0).sum=(ps.map fun _=>(0:Int)).sum:=xJ ps fun p h=>if_neg (full p h)
  rw [this,mI];omega
 | n + 1,seen,c,hs,hl=>by
  rw [jW]
  conv=>rhs;rw [jW]
  congr 1
  refine xJ ps fun p h=>?_
  by_cases hc:p.1=c/\p.2 ∉ seen
  ·rw [if_pos hc,if_pos hc]
   exact EX hp f n _ _ (hs.add hc.2 (hp p h)) (by rw [List.length_append];simp;omega)
  ·rw [if_neg hc,if_neg hc]
noncomputable def W (tls:List Tl) (f:Str->Int) (seen:List Str) (c:Str):Int:=jW (lC tls) f 6 seen c
structure dN (cs:List Str) (tls:List Tl):Prop where
 len:cs.length<=6
 many:tls.length<=14
 cls:∀ tl∈tls,tl.cls∈cs
 hole:∀ tl∈tls,∀ s∈bQ tl.pt,s∈cs
 dep:∀ tl∈tls,tl.pt.dep<=5
theorem dN.pass {cs:List Str} {tls:List Tl} (h:dN cs tls):∀ p∈lC tls,p.1∈cs/\p.2∈cs:=fun p hp=>by
 obtain ⟨tl,h1,h2⟩:=List.mem_filterMap.mp hp
 have hc:=h.cls tl h1
 have hh:=h.hole tl h1
 unfold kR at h2
 obtain ⟨nm,cl,pt,co⟩:=tl
 cases pt with
 | hole s=>cases h2;exact ⟨hc,hh s (by simp [bQ,Pt.ends,gE])⟩
 | _=>cases h2
theorem dN.passes {cs:List Str} {tls:List Tl} (h:dN cs tls):(lC tls).length<=14:=Nat.le_trans (List.length_filterMap_le _ _) h.many
theorem JI {cs:List Str} {tls:List Tl} (h:dN cs tls) (f:Str->Int) {seen:List Str} (c:Str) (hs:Seen cs seen):W tls f seen c=f c + ((lC tls).map fun p=>if p.1=c/\p.2 ∉ seen then W tls f (seen++[p.2]) p.2 else 0).sum:=by
 have hl:=h.len
 have e:W tls f seen c=jW (lC tls) f 7 seen c:=EX (fun p hp=>(h.pass p hp).2) f 6 seen c hs (by omega)
 rw [e,jW];rfl
theorem AL {ps:List (Str × Str)} {f:Str->Int} (hf:∀ c,0<=f c):∀ (n:Nat) (seen:List Str) (c:Str),0<=jW ps f n seen c
 | 0,_,c=>hf c
 | n + 1,seen,c=>by
  have h1:=hf c
  have h2:(ps.map fun _=>(0:Int)).sum<=(ps.map fun p=>if p.1=c/\p.2 ∉ seen then jW ps f n (seen++[p.2]) p.2 else 0).sum:=xV ps fun p _=>by
   split
   ·exact AL hf n _ _
   ·exact Int.le_refl _
  rw [mI] at h2
  rw [jW];omega
theorem CA {ps:List (Str × Str)} {f:Str->Int} {F:Int} (hp:ps.length<=14) (h0:0<=F) (hf:∀ c,f c<=F):∀ (n:Nat) (seen:List Str) (c:Str),jW ps f n seen c<=15 ^ n * F
 | 0,_,c=>by rw [jW];simpa using hf c
 | n + 1,seen,c=>by
  have hP:(0:Int)<=15 ^ n * F:=Int.mul_nonneg (Int.le_of_lt (Int.pow_pos (by decide))) h0
  have h1:=hf c
  have h2:(ps.map fun p=>if p.1=c/\p.2 ∉ seen then jW ps f n (seen++[p.2]) p.2 else 0).sum<=(ps.map fun _=>15 ^ n * F).sum:=xV ps fun p _=>by
   split
   ·exact CA hp h0 hf n _ _
   ·exact hP
  rw [mI] at h2
  have h3:(ps.length:Int) * (15 ^ n * F)<=14 * (15 ^ n * F):=Int.mul_le_mul_of_nonneg_right (by omega) hP
  have h4:F<=15 ^ n * F:=by
   have:(1:Int)<=15 ^ n:=Int.pow_pos (by decide)
   calc F=1 * F:=by omega
    _<=15 ^ n * F:=Int.mul_le_mul_of_nonneg_right this h0
  have h5:(15:Int) ^ (n + 1) * F=15 * (15 ^ n * F):=by rw [Int.pow_succ,Int.mul_comm (15 ^ n) 15,Int.mul_assoc]
  rw [jW,h5];omega
theorem Lu {tls:List Tl} {f:Str->Int} (hf:∀ c,0<=f c) (seen:List Str) (c:Str):0<=W tls f seen c:=AL hf 6 seen c
theorem Bi {cs:List Str} {tls:List Tl} (h:dN cs tls) {f:Str->Int} {F:Int} (h0:0<=F) (hf:∀ c,f c<=F) (seen:List Str) (c:Str):W tls f seen c<=11390625 * F:=by
 have:=CA h.passes h0 hf 6 seen c
 have e:(15:Int) ^ 6=11390625:=by decide
 rw [e] at this;exact this
theorem Gf {ps:List (Str × Str)}:∀ (n:Nat) (seen:List Str) (c:Str),1<=jW ps (fun _=>1) n seen c
 | 0,_,_=>by rw [jW];exact Int.le_refl _
 | n + 1,seen,c=>by
  have h2:(ps.map fun _=>(0:Int)).sum<=(ps.map fun p=>if p.1=c/\p.2 ∉ seen then jW ps (fun _=>1) n (seen++[p.2]) p.2 else 0).sum:=xV ps fun p _=>by
   split
   ·have:=Gf (ps:=ps) n (seen++[p.2]) p.2;omega
   ·exact Int.le_refl _
  rw [mI] at h2
  rw [jW];omega
noncomputable def iD (g:Tr->Str->Int):List (Tr × Str)->Int
 | []=>1
 | x :: r=>g x.1 x.2 * iD g r
noncomputable def iF (g:Tr->Str->Int) (t:Tr) (c:Str):List Tl->Int
 | []=>0
 | tl :: r=>(if tl.pass=false/\bP tl.pt t=true/\tl.cls=c then iD g (bS tl.pt t) else 0) + iF g t c r
noncomputable def n4 (tls:List Tl):Nat->Tr->Str->Int
 | 0,_,_=>0
 | n + 1,t,c=>W tls (fun e=>iF (n4 tls n) t e tls) [c] c
theorem AI {g h:Tr->Str->Int}:∀ (l:List (Tr × Str)),(∀ x∈l,g x.1 x.2=h x.1 x.2)->iD g l=iD h l
 | [],_=>rfl
 | a :: l,e=>by rw [iD,iD,e a List.mem_cons_self,AI l fun x hx=>e x (List.mem_cons_of_mem _ hx)]
theorem w6 {g h:Tr->Str->Int} {t:Tr} {c:Str}:∀ (l:List Tl),(∀ tl∈l,tl.pass=false->bP tl.pt t=true->∀ x∈bS tl.pt t,g x.1 x.2=h x.1 x.2)->iF g t c l=iF h t c l
 | [],_=>rfl
 | a :: l,e=>by
  rw [iF,iF,w6 l fun x hx=>e x (List.mem_cons_of_mem _ hx)]
  congr 1
  by_cases hc:a.pass=false/\bP a.pt t=true/\a.cls=c
  ·rw [if_pos hc,if_pos hc];exact AI _ fun x hx=>e a List.mem_cons_self hc.1 hc.2.1 x hx
  ·rw [if_neg hc,if_neg hc]
theorem BD {l:List Nat} {a:Nat} (h:a∈l):a<=l.sum:=by
 induction l with
 | nil=>cases h
 | cons b r ih =>
  rw [List.sum_cons]
  rcases List.mem_cons.mp h with rfl | h
  ·omega
  ·have:=ih h;omega
theorem uT {tl:Tl} {t:Tr} (hp:tl.pass=false) (hl:bP tl.pt t=true):∀ x∈bS tl.pt t,x.1.size < t.size:=fun x hx=>by
 have h1:=kJ tl.pt t hl
 have h2:=uD hp
 have h3:x.1.size∈(hT tl.pt t).map Tr.size:=List.mem_map.mpr ⟨x.1,List.mem_map.mpr ⟨x,hx,rfl⟩,rfl⟩
 have:=BD h3
 omega
theorem D5 {tls:List Tl}:∀ (n:Nat) (t:Tr) (c:Str),t.size<=n->n4 tls n t c=n4 tls (n + 1) t c
 | 0,t,c,h=>by have:=mL t;omega
 | n + 1,t,c,h=>by
  rw [n4]
  conv=>rhs;rw [n4]
  have:(fun e=>iF (n4 tls n) t e tls)=fun e=>iF (n4 tls (n + 1)) t e tls:=by
   funext e
   refine w6 tls fun tl _ hp hl x hx=>D5 n x.1 x.2 ?_
   have:=uT hp hl x hx
   omega
  rw [this]
theorem Kr {tls:List Tl} (t:Tr) (c:Str):∀ (k n:Nat),t.size<=n->n4 tls n t c=n4 tls (n + k) t c
 | 0,n,_=>rfl
 | k + 1,n,h=>by rw [Kr t c k n h,<- Nat.add_assoc];exact D5 (n + k) t c (by omega)
noncomputable def cnt (tls:List Tl) (t:Tr) (c:Str):Int:=n4 tls t.size t c
noncomputable def topC (tls:List Tl) (t:Tr) (c:Str):Int:=iF (cnt tls) t c tls
theorem EG (tls:List Tl) (t:Tr) (c:Str):cnt tls t c=W tls (topC tls t) [c] c:=by
 have hp:=mL t
 obtain ⟨n,hn⟩:∃ n,t.size=n + 1:=⟨t.size - 1,by omega⟩
 have e0:cnt tls t c=n4 tls (n + 1) t c:=by unfold cnt;rw [hn]
 rw [e0,n4]
 have:(fun e=>iF (n4 tls n) t e tls)=topC tls t:=by
  funext e
  refine w6 tls fun tl _ hpp hl x hx=>?_
  have h1:=uT hpp hl x hx
  have h2:=Kr (tls:=tls) x.1 x.2 (n - x.1.size) x.1.size (Nat.le_refl _)
  rw [show x.1.size + (n - x.1.size)=n by omega] at h2
  exact h2.symm
 rw [this]
theorem x8 {m n:Nat} (h:m<=n):(2:Int) ^ m<=2 ^ n:=by
 have:=Nat.pow_le_pow_right (n:=2) (by decide) h
 exact_mod_cast this
theorem Gu {v:Int} {n:Nat} (h0:0<=v) (h:v<=2 ^ (64 * n)):Builtin.Int.intBits v<=64 * n + 1:=by
 refine PySem.intBits_le_iff.mpr ?_
 have e:(2:Int) ^ (64 * n + 1)=2 * 2 ^ (64 * n):=by rw [Int.pow_succ];omega
 have hp:(0:Int) < 2 ^ (64 * n):=Int.pow_pos (by decide)
 have e2:((2 ^ (64 * n + 1):Nat):Int)=2 ^ (64 * n + 1):=by push_cast;rfl
 have e3:(v.natAbs:Int)=v:=Int.natAbs_of_nonneg h0
 omega
theorem vG {g:Tr->Str->Int}:∀ (l:List (Tr × Str)),(∀ x∈l,0<=g x.1 x.2/\g x.1 x.2<=2 ^ (64 * x.1.size))->0<=iD g l/\iD g l<=2 ^ (64 * ((l.map (·.1)).map Tr.size).sum)
 | [],_=>by simp [iD]
 | a :: l,h=>by
  obtain ⟨h1,h2⟩:=h a List.mem_cons_self
  obtain ⟨h3,h4⟩:=vG l fun x hx=>h x (List.mem_cons_of_mem _ hx)
  rw [iD]
  refine ⟨Int.mul_nonneg h1 h3,?_⟩
  have e:(2:Int) ^ (64 * (((a :: l).map (·.1)).map Tr.size).sum)=2 ^ (64 * a.1.size) * 2 ^ (64 * ((l.map (·.1)).map Tr.size).sum):=by
   rw [<- Int.pow_add,<- Nat.mul_add];rfl
  rw [e]
  exact Int.mul_le_mul h2 h4 h3 (Int.le_of_lt (Int.pow_pos (by decide)))
theorem Cp {g:Tr->Str->Int} {t:Tr} {c:Str} {B:Int} (hB:0<=B):∀ (l:List Tl),(∀ tl∈l,tl.pass=false->bP tl.pt t=true->0<=iD g (bS tl.pt t)/\iD g (bS tl.pt t)<=B)->0<=iF g t c l/\iF g t c l<=l.length * B
 | [],_=>by simp [iF]
 | a :: l,h=>by
  obtain ⟨h3,h4⟩:=Cp (c:=c) hB l fun x hx=>h x (List.mem_cons_of_mem _ hx)
  rw [iF]
  have:((a :: l).length:Int) * B=l.length * B + B:=by rw [List.length_cons];push_cast;rw [Int.add_mul];omega
  rw [this]
  split
  ·rename_i hc
   have:=h a List.mem_cons_self hc.1 hc.2.1
   omega
  ·omega
theorem xA {cs:List Str} {tls:List Tl} (hT:dN cs tls):∀ (n:Nat) (t:Tr),t.size<=n->∀ c,0<=cnt tls t c/\cnt tls t c<=2 ^ (64 * t.size)
 | 0,t,h=>by have:=mL t;omega
 | n + 1,t,h=>fun c=>by
  have hm:=hT.many
  have hB:(0:Int)<=2 ^ (64 * (t.size - 1)):=Int.le_of_lt (Int.pow_pos (by decide))
  have pr:∀ tl∈tls,tl.pass=false->bP tl.pt t=true->0<=iD (cnt tls) (bS tl.pt t)/\iD (cnt tls) (bS tl.pt t)<=2 ^ (64 * (t.size - 1)):=fun tl _ hp hl=>by
   have hs:=kJ tl.pt t hl
   have hb:=uD hp
   obtain ⟨h1,h2⟩:=vG (g:=cnt tls) (bS tl.pt t) fun x hx=>xA hT n x.1 (by have:=uT hp hl x hx;omega) x.2
   refine ⟨h1,Int.le_trans h2 ?_⟩
   have:((bS tl.pt t).map (·.1)).map Tr.size=(K25.hT tl.pt t).map Tr.size:=rfl
   rw [this]
   exact x8 (Nat.mul_le_mul_left _ (by omega))
  have tp:∀ e,0<=topC tls t e/\topC tls t e<=14 * 2 ^ (64 * (t.size - 1)):=fun e=>by
   obtain ⟨h1,h2⟩:=Cp (g:=cnt tls) (t:=t) (c:=e) hB tls pr
   refine ⟨h1,Int.le_trans h2 (Int.mul_le_mul_of_nonneg_right (by omega) hB)⟩
  rw [EG]
  refine ⟨Lu (fun e=>(tp e).1) _ _,?_⟩
  have h1:=Bi hT (F:=14 * 2 ^ (64 * (t.size - 1))) (by omega) (fun e=>(tp e).2) [c] c
  refine Int.le_trans h1 ?_
  have hp:=mL t
  have e:(2:Int) ^ (64 * t.size)=2 ^ 64 * 2 ^ (64 * (t.size - 1)):=by rw [<- Int.pow_add];congr 1;omega
  rw [e]
  have:(2:Int) ^ 64=18446744073709551616:=by decide
  rw [this];omega
end K25
namespace K25
open PySem L2 U2
section
variable {P:Program} {w:World} {K:PySem.W.Frag} {mg:Str->Option Value} {base:Heap} {f d d2 fl:Addr} {fd:FuncData}
noncomputable def pk (p:List Nat):List Key:=p.map fun (n:Nat)=>Sum.inl (n:Int)
theorem tW {p q:List Nat} (h:pk p=pk q):p=q:=by
 induction p generalizing q with
 | nil=>cases q with
  | nil=>rfl
  | cons a r=>cases h
 | cons a r ih=>cases q with
  | nil=>cases h
  | cons b s =>
   simp only [pk,List.map_cons,List.cons.injEq,Sum.inl.injEq] at h
   have h1:a=b:=by omega
   rw [h1,ih h.2]
theorem yK (p:List Nat):l7 (p.map fun (n:Nat)=>U.int (n:Int))=some (pk p):=by
 induction p with
 | nil=>rfl
 | cons a r ih=>simp only [List.map_cons,l7,kW,ih];rfl
theorem QO (p:List Nat):keyOf true (pk p)=aU p:=by
 unfold keyOf
 simp only [if_true,aU,pk,List.map_map]
 rfl
theorem t5 {M:aH} {x:U} {kvs:List (List Key × U)} (p:List Nat) (h:kC M x=some (.dT kvs)):k8 true M x (aU p)=some (cD kvs (pk p)):=by
 simp only [k8,h,aU,yK,Option.map_some]
theorem nA {M:aH} {x:U} {kvs:List (Key × U)} (c:Str) (h:kC M x=some (.dK kvs)):k8 false M x (.str c)=some (cD kvs (.inr c)):=by
 simp only [k8,h,kW]
theorem Hg {M:aH} {x:U} {kvs:List (Key × U)} (h:kC M x=some (.dK kvs)):wL M x=true:=by simp only [wL,h]
theorem rW {κ:Type} [DecidableEq κ] {kvs:List (κ × U)} {k j:κ} {u:U} (h:cD kvs k=none):cD (kvs++[(k,u)]) j=if j=k then some u else cD kvs j:=by
 induction kvs with
 | nil =>
  by_cases e:j=k
  ·subst e;rw [if_pos rfl];exact fN rfl
  ·rw [if_neg e];exact dC (fun z=>e z.symm)
 | cons a r ih =>
  have ha:¬ a.1=k:=fun z=>by rw [fN z] at h;cases h
  rw [dC ha] at h
  rw [List.cons_append]
  by_cases e:a.1=j
  ·rw [fN e,fN e,if_neg (fun z=>ha (e.trans z))]
  ·rw [dC e,dC e];exact ih h
theorem B4 {κ:Type} [DecidableEq κ] {k j:κ} {u:U}:∀ {kvs:List (κ × U)},(cD kvs k).isSome=true->cD (kvs.map fun kv=>if kv.1=k then (kv.1,u) else kv) j=if j=k then some u else cD kvs j
 | [],h=>by cases h
 | a :: r,h=>by
  rw [List.map_cons]
  by_cases ha:a.1=k
  ·rw [if_pos ha]
   by_cases e:a.1=j
   ·rw [fN (p:=(a.1,u)) e,if_pos (e.symm.trans ha)]
   ·rw [dC (p:=(a.1,u)) e,dC e,if_neg (fun z=>e (ha.trans z.symm))]
    clear h
    induction r with
    | nil=>rfl
    | cons b r ih =>
     rw [List.map_cons]
     by_cases hb:b.1=k
     ·rw [if_pos hb,dC (p:=(b.1,u)) (fun z=>e (ha.trans (hb.symm.trans z))),dC (fun z=>e (ha.trans (hb.symm.trans z)))];exact ih
     ·rw [if_neg hb]
      by_cases hj:b.1=j
      ·rw [fN hj,fN hj]
      ·rw [dC hj,dC hj];exact ih
  ·rw [if_neg ha]
   rw [dC ha] at h
   by_cases e:a.1=j
   ·rw [fN e,fN e,if_neg (fun z=>ha (e.trans z))]
   ·rw [dC e,dC e];exact B4 h
theorem nK {κ:Type} [DecidableEq κ] (kvs:List (κ × U)) (k j:κ) (u:U):cD (jJ kvs k u) j=if j=k then some u else cD kvs j:=by
 cases h:cD kvs k with
 | none=>rw [nH h];exact rW h
 | some w=>rw [DV h];exact B4 (by rw [h];rfl)
theorem JX {κ:Type} [DecidableEq κ] (kvs:List (κ × U)) (k:κ) (u:U):∀ e∈jJ kvs k u,e.1=k\/e.1∈kvs.map (·.1):=fun e he=>by
 cases h:cD kvs k with
 | none =>
  rw [nH h] at he
  rcases List.mem_append.mp he with he | he
  ·exact .inr (List.mem_map.mpr ⟨e,he,rfl⟩)
  ·cases List.mem_singleton.mp he;exact .inl rfl
 | some w =>
  rw [DV h] at he
  obtain ⟨x,hx,rfl⟩:=List.mem_map.mp he
  split
  ·exact .inr (List.mem_map.mpr ⟨x,hx,rfl⟩)
  ·exact .inr (List.mem_map.mpr ⟨x,hx,rfl⟩)
theorem rP {κ:Type} [DecidableEq κ] {kvs:List (κ × U)} {k:κ} (h:k ∉ kvs.map (·.1)):cD kvs k=none:=by
 induction kvs with
 | nil=>rfl
 | cons a r ih =>
  rw [List.map_cons,List.mem_cons,not_or] at h
  rw [dC (fun z=>h.1 z.symm)];exact ih h.2
theorem BR {o:Bool} {k:Nat} {ix:List Nat} {wi:UI} {g:UG} {tc:UT} {te:UE} {τ:SU} {M M1:aH} {Q:UK} {S:Src} (zs:List (Option U)) (hw:∀ R:Src->aH->Prop,R S M1->wi τ M R) (hl:zs.length=S.xs.length) (hz:S.xs.length<=sizeLine) (hs:S.ok M1)
  (h:∀ (i:Nat) x z,S.xs[i]?=some x->zs[i]?=some z->∀ M,Sub M1 M->∀ R:Option U->aH->Prop,R z M->g x (eQ k ix τ) M fun τ2 M2=>tc τ2 M2 fun ok M3=>if ok=true then te τ2 M3 fun y M4=>R (some y) M4 else R none M3)
  (q:jL o (zs.filterMap id) M1 Q):uR o k ix wi g tc te τ M Q:=by
 refine hw _ ⟨hz,fun D hD=>⟨fun i ys M=>ys=(zs.take i).filterMap id/\M=mup M1 D (.lst ys)/\i<=S.xs.length,⟨by simp,rfl,Nat.zero_le _⟩,?_,?_,?_⟩⟩
 ·rintro i ys M ⟨rfl,rfl,hi⟩
  refine ⟨fun a e=>?_,aI,?_⟩
  ·have:=hs a e
   rw [aK (fun z=>by subst z;rw [hD] at this;cases this)]
   exact this
  ·refine Nat.le_trans (List.length_filterMap_le _ _) ?_
   rw [List.length_take];omega
 ·rintro i x ys M e ⟨rfl,rfl,hi⟩
  have hlt:i < S.xs.length:=(List.getElem?_eq_some_iff.mp e).1
  have hy:zs[i]?=some zs[i]:=by simp [show i < zs.length by omega]
  have tk:zs.take (i + 1)=zs.take i++[zs[i]]:=by rw [List.take_add_one,hy];rfl
  generalize hzi:zs[i]=z at hy tk
  refine h i x z e hy (mup M1 D (.lst ((zs.take i).filterMap id))) ((Sub.refl M1).mup hD) (fun r M4=>match r with
   | some y=>M4 D=some (.lst ((zs.take i).filterMap id))/\((zs.take i).filterMap id++[y]=(zs.take (i + 1)).filterMap id/\mup M4 D (.lst ((zs.take i).filterMap id++[y]))=mup M1 D (.lst ((zs.take i).filterMap id++[y]))/\i + 1<=S.xs.length)
   | none=>(zs.take i).filterMap id=(zs.take (i + 1)).filterMap id/\M4=mup M1 D (.lst ((zs.take i).filterMap id))/\i + 1<=S.xs.length) ?_
  cases z with
  | some y=>exact ⟨aI,by rw [tk,List.filterMap_append];rfl,gG,hlt⟩
  | none=>exact ⟨by rw [tk,List.filterMap_append];simp,rfl,hlt⟩
 ·rintro ys M ⟨rfl,rfl,hi⟩
  rw [show zs.take S.xs.length=zs by rw [<- hl];exact List.take_length]
  cases o with
  | true=>exact q D hD
  | false=>exact ⟨M1,(Sub.refl M1).mup hD,hD,q⟩
noncomputable def rR (tls:List Tl) (l:Ld):Bool:=match tls[l.n]? with
 | some tl=>tl.pass
 | none=>false
noncomputable def l8 (tls:List Tl) (t:Tr) (p:List Nat):List Ld:=match t.at p with
 | some t'=>(dJ t' p 0 tls).filter fun l=>!rR tls l
 | none=>[]
noncomputable def C2 (tls:List Tl) (t:Tr) (p:List Nat):U:=.lst ((l8 tls t p).map Ld.toU)
noncomputable def fL (tls:List Tl) (t:Tr) (ps:List (List Nat)):List (List Key × U):=ps.map fun p=>(pk p,C2 tls t p)
theorem Eb (t:Tr) (p:List Nat):∀ (l:List Tl) (k:Nat),∀ x∈dJ t p k l,k<=x.n/\∃ tl,l[x.n - k]?=some tl/\x.cls=tl.cls/\x.price=tl.cost/\bP tl.pt t=true/\x.spots=(jD tl.pt).map fun e=>(p++e.1,e.2)
 | [],k,x,h=>by cases h
 | a :: l,k,x,h=>by
  simp only [dJ] at h
  rcases List.mem_append.mp h with h | h
  ·split at h
   ·rename_i hl
    cases List.mem_singleton.mp h
    exact ⟨Nat.le_refl _,a,by simp,rfl,rfl,hl,rfl⟩
   ·cases h
  ·obtain ⟨h1,tl,h2,h3⟩:=Eb t p l (k + 1) x h
   refine ⟨by omega,tl,?_,h3⟩
   rw [show x.n - k=(x.n - (k + 1)) + 1 by omega]
   simpa using h2
theorem FF {tls:List Tl} {t:Tr} {ps:List (List Nat)} {p:List Nat} (h:p ∉ ps):cD (fL tls t ps) (pk p)=none:=by
 refine rP fun z=>h ?_
 obtain ⟨x,hx,e⟩:=List.mem_map.mp z
 obtain ⟨q,hq,rfl⟩:=List.mem_map.mp hx
 exact tW e ▸ hq
theorem zB {tls:List Tl} {t:Tr}:∀ {ps:List (List Nat)} {p:List Nat},p∈ps->cD (fL tls t ps) (pk p)=some (C2 tls t p)
 | q :: ps,p,h=>by
  by_cases e:q=p
  ·subst e;exact fN rfl
  ·have:cD (fL tls t (q :: ps)) (pk p)=cD (fL tls t ps) (pk p):=dC (fun z=>e (tW z))
   rw [this]
   exact zB ((List.mem_cons.mp h).resolve_left fun z=>e z.symm)
 | [],_,h=>by cases h
noncomputable def FK:c8:=fun us M Q=>∃ (cs:List Str) (tls:List Tl) (t:Tr),us=[fD cs tls,t.toU]/\dN cs tls/\t.size<=40/\∀ d,M d=none->Q (.ref d) (mup M d (.dT (fL tls t t.places)))
noncomputable def Gx:c8:=fun us M Q=>∃ (cs:List Str) (tls:List Tl) (t:Tr),us=[fD cs tls,t.toU]/\dN cs tls/\t.size<=40/\Q (nR (fL tls t t.places)) M
theorem xG (t:Tr):t.places.Nodup:=(mT t).imp fun {x y} h z=>h (by rw [z];exact List.prefix_refl _)
local macro_rules | `(tactic| simp! only [$xs,*] $[$l]?) => `(tactic| simp only [$xs,*, Bool.false_eq_true, Bool.not_false, Bool.not_true, List.append_nil, List.cons_append, List.getElem?_cons_succ, List.getElem?_cons_zero, List.length_cons, List.length_nil, List.map_cons, List.map_nil, List.nil_append, List.replicate, List.set_cons_succ, List.set_cons_zero, Nat.add_sub_cancel, Nat.reduceAdd, Nat.reduceLeDiff, Nat.reduceSub, Nat.sub_self, Option.getD_some, Option.some.injEq, and_true, zA, Ay, at2, Cf, tM, tJ, mY, mN, mQ, qZ, mW, DZ, qV, tG, kK, AH, Am, AJ, BQ, eQ, decide_false, decide_true, mK, mM, exists_eq_left', if_false, if_true, wJ, p5, h7, dP, dQ, dZ, dR, eA, dG, fZ, gA, gT, gC, gY, eW, gB, fY, gK, fR, gP, eX, gU, gJ, iJ, gZ, iL, fS, fT, fX, gM, gD, gN, eV, gS, gQ, iM, gR, iK, fV, e7, eU, fQ, eY, fW, eL, items, rD, jV, o3, jS, qK, aW, jL, gG, aI, reduceCtorEq, iC, BV, true_and, sS, rA, mO, tB, n9, wF, tH, Rf, JR, uC, xO, oB, oR, lR, n8, C1, Qc, Jk, S6, NP, oD, lV, wV, uI, pK, yU, wG, cQ, fB, xW, oI, xU, Hi, aX, sQ, tP, qN, wQ, sO, j9, tF, fC, r9, rH, lH, yV, tQ, Dq, oM, cG, oK, oN, aZ, rS, sL, mV, sI, sX, zP, pA, sH, bE, dF, jM, oZ, lW, oQ, mS, o4, oW] $[$l]?)
theorem Mc (F:cW K "laid_tiles" "laid_tiles" qS f fd) (hm:mg "laid_tiles"=some (.ref f)) (LZ:Callee P w K mg base 42 "places" (kG 40) []) (HY:Callee P w K mg base 10 "tiles_at" Cs []) (xM:Callee P w K mg base 1 "is_pass" DC []):Callee P w K mg base 43 "laid_tiles" FK []:=by
 refine bF F hm pI (kP fun _ _ _ _ _ _ _ _=>rfl) (aD (aO 2 pI.nd (lD true))
 (aD (cS (c9 (aR LZ (aA (uv 1) aB))) (aN (k:=1000) 3 pI.nd)
 (aE (kX true (fun _=>True.intro) (jR false ["tile","table"] 1 [0] (c9 (aR HY (aA (uv 0) (aA (uv 1) (aA (uv 3) aB))))) (aN (k:=1) 0 (by dsimp only [cJ];decide +kernel)) (yQ (wN (jQ (aR xM (aA (aG (aG (uv 1) aF) (aG (uv 0) aF)) aB))))) (uv 0)) (uv 2) (uv 3))))
 (aE (aV (uv 2))))) ?_
 rintro us M Q ⟨cs,tls,t,rfl,hT,hs,q⟩
 refine ⟨rfl,?_⟩
 have hpl:=iN t
 have hnd:=xG t
 refine aP fun V hV=>?_
 simp! only [bJ,hName]
 intro d hd
 subst hV
 refine aP fun V hV=>?_
 refine cP (S:=⟨none,t.places.map aU⟩) (M1:=mup M d (.dT (fL tls t []))) (fun R r=>by
   simp! only [true_and]
   exact ⟨t,rfl,by have:=vE t;omega,by omega,r⟩)
  (fun i τ Mi=>∃ z:Option U,τ=[some (fD cs tls),some t.toU,some (.ref d),z]/\Mi=mup M d (.dT (fL tls t (t.places.take i)))) ⟨none,rfl,rfl⟩ nk ?_ ?_
 ·rintro i x τ Mi e ⟨z,rfl,rfl⟩
  have e':(t.places.map aU)[i]?=some x:=e
  rw [List.getElem?_map] at e'
  cases hj:t.places[i]? with
  | none=>rw [hj] at e';cases e'
  | some p =>
   rw [hj] at e'
   cases e'
   have hi:=(List.getElem?_eq_some_iff.mp hj).1
   have hmem:=List.mem_of_getElem? hj
   obtain ⟨t',ht⟩:=qH t p hmem
   have hps:=jX t p hmem
   have hnew:p ∉ t.places.take i:=fun z=>by
    obtain ⟨k,hk,e⟩:=List.getElem_of_mem z
    rw [List.getElem_take] at e
    rw [List.length_take] at hk
    have:=(List.getElem_inj hnd).mp (e.trans (List.getElem?_eq_some_iff.mp hj).2.symm)
    omega
   have hll:=vW t' p tls 0
   have htl:=hT.many
   simp! only [hName,oP]
   refine BR (S:=⟨none,(dJ t' p 0 tls).map Ld.toU⟩) (M1:=mup M d (.dT (fL tls t (t.places.take i)))) ((dJ t' p 0 tls).map fun l=>if rR tls l then none else some l.toU) (fun R r=>by
     simp! only [true_and]
     exact ⟨cs,tls,t,t',p,rfl,AR t p t' ht,fun tl h=>by have:=hT.dep tl h;omega,by omega,by omega,r⟩) (by simp) (small (by show ((dJ t' p 0 tls).map Ld.toU).length<=_;rw [List.length_map];omega)) (fun a e=>by cases e) ?_ ?_
   ·intro k x z' hx hz M' hS R r'
    have hx':((dJ t' p 0 tls).map Ld.toU)[k]?=some x:=hx
    rw [List.getElem?_map] at hx' hz
    cases hk:(dJ t' p 0 tls)[k]? with
    | none=>rw [hk] at hx';cases hx'
    | some l =>
     rw [hk] at hx' hz
     cases hx';cases hz
     obtain ⟨_,tl,h2,_⟩:=Eb t' p tls 0 l (List.mem_of_getElem? hk)
     rw [Nat.sub_zero] at h2
     have hat:cK (tls.map Tl.toU) (l.n:Int)=some tl.toU:=by
      have:(tls.map Tl.toU)[l.n]?=some tl.toU:=by rw [List.getElem?_map,h2];rfl
      exact fP this
     have hp:rR tls l=tl.pass:=by unfold rR;rw [h2]
     have r':R (if rR tls l=true then none else some l.toU) M':=r'
     rw [hp] at r'
     simp! only [hName,Ld.toU,jP,hat]
     refine ⟨tl,rfl,?_⟩
     cases htp:tl.pass with
     | true=>rw [htp] at r';simp only [jM,Bool.not_true,Bool.false_eq_true,if_false];exact r'
     | false=>rw [htp] at r';simp! only [true_and];exact r'
   ·have ef:((dJ t' p 0 tls).map fun l=>if rR tls l then none else some l.toU).filterMap id=((dJ t' p 0 tls).filter fun l=>!rR tls l).map Ld.toU:=by
     generalize dJ t' p 0 tls=L
     induction L with
     | nil=>rfl
     | cons a r ih =>
      rw [List.map_cons,List.filterMap_cons,List.filter_cons]
      cases rR tls a with
      | true=>exact ih
      | false=>simpa using ih
    have elu:U.lst (((dJ t' p 0 tls).filter fun l=>!rR tls l).map Ld.toU)=C2 tls t p:=by unfold C2 l8;rw [ht]
    simp! only [ef,elu,aU,yK]
    refine ⟨big (by simp only [fL,List.length_map,List.length_take];omega),_,rfl,?_⟩
    rw [nH (FF hnew),List.take_add_one,hj]
    simp [fL]
 ·rintro τ Mi ⟨z,rfl,rfl⟩
  have hlen:(Src.mk none (t.places.map aU)).xs.length=t.places.length:=by show (t.places.map aU).length=_;simp
  rw [hlen,List.take_length]
  subst hV
  simp! only [cT]
  exact aS (q d hd)
theorem CN (C:Callee P w K mg base 43 "laid_tiles" FK []):Callee P w K mg base 43 "laid_tiles" Gx []:=by
 refine U2.Callee.conv C fun us M Q h=>?_
 obtain ⟨cs,tls,t,rfl,hT,hs,q⟩:=h
 exact ⟨cs,tls,t,rfl,hT,hs,fun d hd=>F0 ((Sub.refl M).mup hd) aI hd q⟩
noncomputable def fH (tls:List Tl):List (Nat × Str × Str):=tls.zipIdx.filterMap fun p=>(kR p.1).map fun q=>(p.2,q)
noncomputable def m6 (p:Nat × Str × Str):U:=.tup [.int p.1,.str p.2.1,.str p.2.2]
theorem w5 (tls:List Tl):(fH tls).map (·.2)=lC tls:=by
 have:∀ (l:List Tl) (n:Nat),((l.zipIdx n).filterMap fun p=>(kR p.1).map fun q=>(p.2,q)).map (·.2)=l.filterMap kR:=by
  intro l
  induction l with
  | nil=>intro n;rfl
  | cons a r ih =>
   intro n
   rw [List.zipIdx_cons,List.filterMap_cons,List.filterMap_cons]
   cases h:kR a with
   | none=>simpa [h] using ih (n + 1)
   | some q=>simpa [h] using ih (n + 1)
 exact this tls 0
noncomputable def lG (x:List Int × List Str):U:=.tup [.lst (x.1.map U.int),.lst (x.2.map U.str)]
noncomputable def dE (x:List Int × List Str) (c:Str):Str:=x.2.getLast?.getD c
noncomputable def flen (M:aH) (d:Addr):Nat:=match M d with
 | some (.dK kvs)=>(kvs.map fun e=>match e.2 with | .ref r=>(match M r with | some (.lst us)=>us.length | _=>0) | _=>0).sum
 | _=>0
structure oX (M:aH) (cs:List Str) (tls:List Tl) (c:Str) (d w:Addr) (l:List (Str × Addr × List U)) (st:List (List Int × List Str)) (Mi:aH):Prop where
 sub:Sub M Mi
 hd:Mi d=some (.dK (l.map fun e=>(Sum.inr e.1,.ref e.2.1)))
 hw:Mi w=some (.lst (st.map lG))
 hl:∀ e∈l,Mi e.2.1=some (.lst e.2.2)/\M e.2.1=none/\e.2.1≠d/\e.2.1≠w
 nd:(l.map (·.2.1)).Nodup
 nk:(l.map (·.1)).Nodup
 kc:∀ e∈l,e.1∈cs
 dn:M d=none
 wn:M w=none
 dw:d≠w
 ok:∀ x∈st,Seen cs x.2/\x.2≠[]/\x.1.length<=x.2.length
 cnt:∀ f,(l.map fun e=>(e.2.2.length:Int) * f e.1).sum + (st.map fun x=>W tls f x.2 (dE x c)).sum=W tls f [c] c
theorem oX.keys {M:aH} {cs:List Str} {tls:List Tl} {c:Str} {d w:Addr} {l:List (Str × Addr × List U)} {st:List (List Int × List Str)} {Mi:aH} (p:oX M cs tls c d w l st Mi):l.length<=cs.length:=by
 have:=rG _ cs p.nk fun s hs=>by obtain ⟨e,he,rfl⟩:=List.mem_map.mp hs;exact p.kc e he
 rwa [List.length_map] at this
theorem oX.flen {M:aH} {cs:List Str} {tls:List Tl} {c:Str} {d w:Addr} {l:List (Str × Addr × List U)} {st:List (List Int × List Str)} {Mi:aH} (p:oX M cs tls c d w l st Mi):flen Mi d=(l.map fun e=>e.2.2.length).sum:=by
 unfold K25.flen
 rw [p.hd]
 simp only [List.map_map]
 congr 1
 refine List.map_congr_left fun e he=>?_
 simp only [Function.comp]
 rw [(p.hl e he).1]
theorem oX.all {M:aH} {cs:List Str} {tls:List Tl} {c:Str} {d w:Addr} {l:List (Str × Addr × List U)} {st:List (List Int × List Str)} {Mi:aH} (hT:dN cs tls) (p:oX M cs tls c d w l st Mi):(((l.map fun e=>e.2.2.length).sum:Nat):Int) + st.length<=W tls (fun _=>1) [c] c/\W tls (fun _=>1) [c] c<=11390625:=by
 have h:=p.cnt fun _=>1
 have h1:(l.map fun e=>(e.2.2.length:Int) * 1).sum=(((l.map fun e=>e.2.2.length).sum:Nat):Int):=by
  generalize l=L
  induction L with
  | nil=>rfl
  | cons a r ih=>rw [List.map_cons,List.map_cons,List.sum_cons,List.sum_cons,ih];push_cast;omega
 have h2:(st.map fun _=>(1:Int)).sum<=(st.map fun x=>W tls (fun _=>1) x.2 (dE x c)).sum:=xV st fun x _=>Gf 6 x.2 _
 rw [mI] at h2
 have h3:=Bi hT (f:=fun _=>1) (F:=1) (by decide) (fun _=>Int.le_refl _) [c] c
 omega
theorem O8 {l:List (Str × Addr × List U)} {e:Str × Addr × List U} (h:e∈l):e.2.2.length<=(l.map fun e=>e.2.2.length).sum:=BD (List.mem_map.mpr ⟨e,h,rfl⟩)
theorem Dp {c:Str} {u:U}:∀ {l:List (Str × Addr × List U)},cD (l.map fun e=>((Sum.inr e.1:Key),U.ref e.2.1)) (Sum.inr c)=some u->∃ l1 e l2,l=l1++e :: l2/\e.1=c/\u=.ref e.2.1
 | [],h=>by cases h
 | a :: r,h=>by
  rw [List.map_cons] at h
  by_cases e:a.1=c
  ·rw [fN (p:=((Sum.inr a.1:Key),U.ref a.2.1)) (by show (Sum.inr a.1:Key)=_;rw [e])] at h
   cases h
   exact ⟨[],a,r,rfl,e,rfl⟩
  ·rw [dC (p:=((Sum.inr a.1:Key),U.ref a.2.1)) (fun z=>e (Sum.inr.inj z))] at h
   obtain ⟨l1,x,l2,rfl,h2,h3⟩:=Dp h
   exact ⟨a :: l1,x,l2,rfl,h2,h3⟩
theorem OJ {c:Str} {l:List (Str × Addr × List U)} (h:cD (l.map fun e=>((Sum.inr e.1:Key),U.ref e.2.1)) (Sum.inr c)=none):c ∉ l.map (·.1):=by
 intro z
 obtain ⟨e,he,rfl⟩:=List.mem_map.mp z
 induction l with
 | nil=>cases he
 | cons a r ih =>
  rw [List.map_cons] at h
  by_cases q:a.1=e.1
  ·rw [fN (p:=((Sum.inr a.1:Key),U.ref a.2.1)) (by show (Sum.inr a.1:Key)=_;rw [q])] at h;cases h
  ·rw [dC (p:=((Sum.inr a.1:Key),U.ref a.2.1)) (fun z=>q (Sum.inr.inj z))] at h
   rcases List.mem_cons.mp he with rfl | he
   ·exact q rfl
   ·exact ih he h (List.mem_map.mpr ⟨e,he,rfl⟩)
theorem q9 {M:aH} {a b:Addr} {x y:MO} (h:a≠b):mup (mup M a x) b y=mup (mup M b y) a x:=by
 funext z
 by_cases e1:z=b
 ·subst e1;rw [aI,aK (Ne.symm h),aI]
 ·rw [aK e1]
  by_cases e2:z=a
  ·subst e2;rw [aI,aI]
  ·rw [aK e2,aK e2,aK e1]
theorem oX.stray {M:aH} {cs:List Str} {tls:List Tl} {c:Str} {d w r:Addr} {o:MO} {l:List (Str × Addr × List U)} {st:List (List Int × List Str)} {Mi:aH} (p:oX M cs tls c d w l st Mi) (h:Mi r=none):oX M cs tls c d w l st (mup Mi r o):=by
 have mr:M r=none:=by
  cases e:M r with
  | none=>rfl
  | some mo=>rw [p.sub r mo e] at h;cases h
 refine ⟨p.sub.mup mr,?_,?_,fun e he=>?_,p.nd,p.nk,p.kc,p.dn,p.wn,p.dw,p.ok,p.cnt⟩
 ·rw [aK (fun z=>by rw [<- z,p.hd] at h;cases h)];exact p.hd
 ·rw [aK (fun z=>by rw [<- z,p.hw] at h;cases h)];exact p.hw
 ·obtain ⟨k1,k2⟩:=p.hl e he
  exact ⟨by rw [aK (fun z=>by rw [<- z,k1] at h;cases h)];exact k1,k2⟩
theorem N4 {M:aH} {cs:List Str} {tls:List Tl} {c:Str} {d w:Addr} {l1 l2:List (Str × Addr × List U)} {e:Str × Addr × List U} {u:U} {st:List (List Int × List Str)} {x:List Int × List Str} {Mi:aH} (p:oX M cs tls c d w (l1++e :: l2) (st++[x]) Mi) (he:e.1=dE x c) {st':List (List Int × List Str)}
  (hok:∀ y∈st',Seen cs y.2/\y.2≠[]/\y.1.length<=y.2.length) (hW:∀ f,W tls f x.2 (dE x c)=f (dE x c) + (st'.map fun y=>W tls f y.2 (dE y c)).sum) :
  oX M cs tls c d w (l1++(e.1,e.2.1,e.2.2++[u]) :: l2) (st++st') (mup (mup (mup Mi w (.lst (st.map lG))) e.2.1 (.lst (e.2.2++[u]))) w (.lst ((st++st').map lG))):=by
 obtain ⟨g1,g2,g3,g4⟩:=p.hl e (by simp)
 have nd:=p.nd
 have ne:∀ y,(y∈l1\/y∈l2)->y.2.1≠e.2.1:=fun y hy=>by
  rw [List.map_append,List.map_cons,List.nodup_append] at nd
  obtain ⟨n1,n2,n3⟩:=nd
  rw [List.nodup_cons] at n2
  rcases hy with hy | hy
  ·exact n3 _ (List.mem_map.mpr ⟨y,hy,rfl⟩) _ List.mem_cons_self
  ·exact fun z=>n2.1 (z ▸ List.mem_map.mpr ⟨y,hy,rfl⟩)
 refine ⟨?_,?_,aI,fun y hy=>?_,?_,?_,fun y hy=>?_,p.dn,p.wn,p.dw,fun y hy=>?_,fun f=>?_⟩
 ·exact (((p.sub.mup p.wn).mup g2).mup p.wn)
 ·rw [aK p.dw,aK (Ne.symm g3),aK p.dw,p.hd];simp
 ·have hy':y=(e.1,e.2.1,e.2.2++[u])\/(y∈l1\/y∈l2):=by
   rcases List.mem_append.mp hy with h | h
   ·exact .inr (.inl h)
   ·rcases List.mem_cons.mp h with h | h
    ·exact .inl h
    ·exact .inr (.inr h)
  rcases hy' with rfl | h
  ·exact ⟨by rw [aK g4,aI],g2,g3,g4⟩
  ·obtain ⟨k1,k2,k3,k4⟩:=p.hl y (by rcases h with h | h <;> simp [h])
   exact ⟨by rw [aK k4,aK (ne y h),aK k4];exact k1,k2,k3,k4⟩
 ·have:=p.nd;simpa using this
 ·have:=p.nk;simpa using this
 ·have hk:=p.kc
  rcases List.mem_append.mp hy with h | h
  ·exact hk y (by simp [h])
  ·rcases List.mem_cons.mp h with rfl | h
   ·exact hk e (by simp)
   ·exact hk y (by simp [h])
 ·rcases List.mem_append.mp hy with h | h
  ·exact p.ok y (by simp [h])
  ·exact hok y h
 ·have h:=p.cnt f
  simp only [List.map_append,List.map_cons,List.map_nil,List.sum_append,List.sum_cons,List.sum_nil,List.length_append,List.length_cons,List.length_nil] at h ⊢
  rw [hW f] at h
  have:(((e.2.2.length + (0 + 1):Nat)):Int) * f e.1=e.2.2.length * f e.1 + f (dE x c):=by rw [he];push_cast;rw [Int.add_mul];omega
  rw [this];omega
theorem OU {M:aH} {cs:List Str} {tls:List Tl} {c:Str} {d w r:Addr} {l:List (Str × Addr × List U)} {u:U} {st:List (List Int × List Str)} {x:List Int × List Str} {Mi:aH} (p:oX M cs tls c d w l (st++[x]) Mi) (hr:mup Mi w (.lst (st.map lG)) r=none) (hc:dE x c∈cs) (hn:dE x c ∉ l.map (·.1)) {st':List (List Int × List Str)}
  (hok:∀ y∈st',Seen cs y.2/\y.2≠[]/\y.1.length<=y.2.length) (hW:∀ f,W tls f x.2 (dE x c)=f (dE x c) + (st'.map fun y=>W tls f y.2 (dE y c)).sum) :
  oX M cs tls c d w (l++[(dE x c,r,[u])]) (st++st') (mup (mup (mup (mup Mi w (.lst (st.map lG))) d (.dK ((l.map fun e=>((Sum.inr e.1:Key),U.ref e.2.1))++[(Sum.inr (dE x c),.ref r)]))) r (.lst [u])) w (.lst ((st++st').map lG))):=by
 have rw':r≠w:=fun z=>by rw [z,aI] at hr;cases hr
 rw [aK rw'] at hr
 have rd:r≠d:=fun z=>by rw [z,p.hd] at hr;cases hr
 have mr:M r=none:=by
  cases h:M r with
  | none=>rfl
  | some mo=>rw [p.sub r mo h] at hr;cases hr
 have rl:∀ e∈l,e.2.1≠r:=fun e he z=>by rw [<- z,(p.hl e he).1] at hr;cases hr
 refine ⟨?_,?_,aI,fun y hy=>?_,?_,?_,fun y hy=>?_,p.dn,p.wn,p.dw,fun y hy=>?_,fun f=>?_⟩
 ·exact ((((p.sub.mup p.wn).mup p.dn).mup mr).mup p.wn)
 ·rw [aK p.dw,aK (Ne.symm rd),aI];simp
 ·rcases List.mem_append.mp hy with h | h
  ·obtain ⟨k1,k2,k3,k4⟩:=p.hl y h
   exact ⟨by rw [aK k4,aK (rl y h),aK k3,aK k4];exact k1,k2,k3,k4⟩
  ·cases List.mem_singleton.mp h
   exact ⟨by rw [aK rw',aI],mr,rd,rw'⟩
 ·rw [List.map_append]
  refine List.nodup_append.mpr ⟨p.nd,by simp,fun a ha b hb=>?_⟩
  obtain ⟨e,he,rfl⟩:=List.mem_map.mp ha
  simp only [List.map_cons,List.map_nil,List.mem_singleton] at hb
  rw [hb];exact rl e he
 ·rw [List.map_append]
  refine List.nodup_append.mpr ⟨p.nk,by simp,fun a ha b hb=>?_⟩
  simp only [List.map_cons,List.map_nil,List.mem_singleton] at hb
  rw [hb];exact fun z=>hn (z ▸ ha)
 ·rcases List.mem_append.mp hy with h | h
  ·exact p.kc y h
  ·cases List.mem_singleton.mp h;exact hc
 ·rcases List.mem_append.mp hy with h | h
  ·exact p.ok y (by simp [h])
  ·exact hok y h
 ·have h:=p.cnt f
  simp only [List.map_append,List.map_cons,List.map_nil,List.sum_append,List.sum_cons,List.sum_nil,List.length_cons,List.length_nil] at h ⊢
  rw [hW f] at h
  push_cast
  omega
noncomputable def mB (x:List Int × List Str) (c:Str) (ps:List (Nat × Str × Str)):List (List Int × List Str):=ps.filterMap fun p=>if p.2.1=dE x c/\p.2.2 ∉ x.2 then some (x.1++[(p.1:Int)],x.2++[p.2.2]) else none
theorem Eh (tls:List Tl) (x:List Int × List Str) (c:Str) (f:Str->Int):∀ ps:List (Nat × Str × Str),((mB x c ps).map fun y=>W tls f y.2 (dE y c)).sum=((ps.map (·.2)).map fun p=>if p.1=dE x c/\p.2 ∉ x.2 then W tls f (x.2++[p.2]) p.2 else 0).sum
 | []=>rfl
 | p :: ps=>by
  have ih:=Eh tls x c f ps
  unfold mB at ih ⊢
  rw [List.filterMap_cons,List.map_cons,List.map_cons,List.sum_cons,<- ih]
  by_cases h:p.2.1=dE x c/\p.2.2 ∉ x.2
  ·rw [if_pos h,if_pos h]
   simp [dE]
  ·rw [if_neg h,if_neg h]
   simp
theorem J6 {cs:List Str} {tls:List Tl} (hT:dN cs tls) {x:List Int × List Str} {c:Str} (hs:Seen cs x.2) (f:Str->Int):W tls f x.2 (dE x c)=f (dE x c) + ((mB x c (fH tls)).map fun y=>W tls f y.2 (dE y c)).sum:=by
 rw [JI hT f _ hs,Eh,w5]
theorem F6 {cs:List Str} {tls:List Tl} (hT:dN cs tls) {x:List Int × List Str} {c:Str} (hs:Seen cs x.2) (hl:x.1.length<=x.2.length):∀ y∈mB x c (fH tls),Seen cs y.2/\y.2≠[]/\y.1.length<=y.2.length:=fun y hy=>by
 obtain ⟨p,hp,e⟩:=List.mem_filterMap.mp hy
 split at e
 ·rename_i h
  cases e
  have:p.2∈lC tls:=by rw [<- w5];exact List.mem_map.mpr ⟨p,hp,rfl⟩
  exact ⟨hs.add h.2 (hT.pass _ this).2,by simp,by simp;exact hl⟩
 ·cases e
noncomputable def kA (l:List (Str × List U)):List (Key × U):=l.map fun e=>(Sum.inr e.1,.lst e.2)
structure GW (tls:List Tl) (c:Str) (l:List (Str × List U)):Prop where
 cnt:∀ f:Str->Int,(l.map fun e=>(e.2.length:Int) * f e.1).sum=W tls f [c] c
 few:l.length<=6
noncomputable def EA:c8:=fun us M Q=>∃ (cs:List Str) (tls:List Tl) (c:Str),us=[fD cs tls,.str c]/\dN cs tls/\c∈cs/\∀ (d w:Addr) (l:List (Str × Addr × List U)) (Mi:aH),oX M cs tls c d w l [] Mi->Q (.ref d) Mi
noncomputable def Gr:c8:=fun us M Q=>∃ (cs:List Str) (tls:List Tl) (c:Str),us=[fD cs tls,.str c]/\dN cs tls/\c∈cs/\∀ l:List (Str × List U),GW tls c l->Q (eG (kA l)) M
theorem KQ (F:cW K "pass_chains" "pass_chains" pF f fd) (hm:mg "pass_chains"=some (.ref f)) (bH:mg "enumerate"=none) (xM:Callee P w K mg base 1 "is_pass" DC []):Callee P w K mg base 2 "pass_chains" EA []:=by
 refine bF F hm dO (kP fun _ _ _ _ _ _ _ _=>rfl) (aD (p8 2 dO.nd false ["number","tile"] 2 [] (kQ bH (aA (aG (uv 0) aF) aB)) (eJ (n:=2) (bB (aN (k:=2) 0 (by dsimp only [cJ];decide +kernel)) (bB (aN (k:=2) 1 (by dsimp only [cJ];decide +kernel)) dH))) (yQ (jQ (aR xM (aA (uv 1) aB)))) (aY (aA (uv 0) (aA (aG (uv 1) aF) (aA (aG (aG (uv 1) aF) aF) aB)))))
 (aD (aO 3 dO.nd (lD false))
 (aD (aO 4 dO.nd (cX (own:=true) (aA (aY (aA (cX (own:=false) aB) (aA (cX (own:=false) (aA (uv 1) aB)) aB))) aB)))
 (aD (u9 (jQ (uv 4))
 (aD (aO 5 dO.nd (xY (uv 4)))
 (aD (aO 6 dO.nd (aG (uv 5) aF))
 (aD (aO 7 dO.nd (aG (uv 5) aF))
 (aD (e6 (eM (CU (uv 3) (aG (uv 7) (lY aF)) (cX (own:=true) aB)) (aA (uv 6) aB)))
 (aE (cS (c9 (uv 2)) (eJ (n:=3) (bB (aN (k:=1000) 8 dO.nd) (bB (aN (k:=1000) 9 dO.nd) (bB (aN (k:=1000) 10 dO.nd) dH))))
 (aE (b6 (m7.pt (kM (b8 c7 (uv 9) (aG (uv 7) (lY aF))) (mJ (b8 yP (uv 10) (uv 7)))))
 (aE (e6 (eM (uv 4) (aA (aY (aA (bL (own:=false) (uv 6) (cX (own:=false) (aA (uv 8) aB))) (aA (bL (own:=false) (uv 7) (cX (own:=false) (aA (uv 10) aB))) aB))) aB))))
 bI)))))))))
 (aE (aV (uv 3))))))) ?_
 rintro us M Q ⟨cs,tls,c,rfl,hT,hc,q⟩
 refine ⟨rfl,?_⟩
 have htl:=hT.many
 refine aP fun V hV=>?_
 refine BR (S:=⟨none,numbered (tls.map Tl.toU)⟩) (M1:=M) (tls.zipIdx.map fun p=>(kR p.1).map fun q=>m6 (p.2,q)) (fun R r=>by simp! only [jP];exact r) (by simp [U2.numbered]) (small (by show (numbered (tls.map Tl.toU)).length<=_;rw [iW,List.length_map];omega)) (fun a e=>by cases e) ?_ ?_
 ·intro k x z hx hz M' hS R r'
  obtain ⟨u,hu,rfl⟩:=iY hx
  rw [List.getElem?_map] at hu hz
  rw [List.getElem?_zipIdx] at hz
  cases hk:tls[k]? with
  | none=>rw [hk] at hu;cases hu
  | some tl =>
   rw [hk] at hu hz
   cases hu
   simp only [Option.map_some,Option.some.injEq,Nat.zero_add] at hz
   subst hz
   refine ⟨rfl,?_⟩
   simp! only [bV,bM,cB,hName]
   refine ⟨tl,rfl,?_⟩
   obtain ⟨nm,cl,pt,co⟩:=tl
   cases pt with
   | hole s =>
    have e1:Tl.pass ⟨nm,cl,.hole s,co⟩=true:=rfl
    simp! only [e1,iZ,Pt.toU]
    exact r'
   | _ =>
    simp only [Tl.pass,jM,Bool.false_eq_true,if_false]
    exact r'
 ·have ef:(tls.zipIdx.map fun p=>(kR p.1).map fun q=>m6 (p.2,q)).filterMap id=(fH tls).map m6:=by
   unfold fH
   generalize tls.zipIdx=L
   induction L with
   | nil=>rfl
   | cons a r ih =>
    rw [List.map_cons,List.filterMap_cons,List.filterMap_cons]
    cases kR a.1 with
    | none=>exact ih
    | some q=>simpa using ih
  simp! only [ef,hName]
  have hpl:(fH tls).length<=14:=by
   have h1:=congrArg List.length (w5 tls)
   have h2:=hT.passes
   rw [List.length_map] at h1;omega
  subst hV
  refine aP fun V hV=>?_
  simp! only [bJ,hName]
  intro d hd
  subst hV
  refine aP fun V hV=>?_
  simp! only [bJ,hName]
  intro wt hwt
  have hdw:d≠wt:=fun z=>by subst z;rw [aI] at hwt;cases hwt
  rw [aK (Ne.symm hdw)] at hwt
  subst hV
  have p0:oX M cs tls c d wt [] [([],[c])] (mup (mup M d (Rn false)) wt (.lst [lG ([],[c])])):=by
   refine ⟨((Sub.refl M).mup hd).mup hwt,by rw [aK hdw,aI];rfl,aI,(fun e he=>by cases he),by simp,by simp,(fun e he=>by cases he),hd,hwt,hdw,fun x hx=>?_,fun f=>?_⟩
   ·cases List.mem_singleton.mp hx
    exact ⟨⟨by simp,fun s hs=>by cases List.mem_singleton.mp hs;exact hc⟩,by simp,by simp⟩
   ·simp [dE]
  refine aP fun V hV=>?_
  refine uE (fun τ Mi=>∃ (l:List (Str × Addr × List U)) (st:List (List Int × List Str)) (z5 z6 z7 z8 z9 z10:Option U),τ=[some (fD cs tls),some (.str c),some (.lst ((fH tls).map m6)),some (.ref d),some (.ref wt),z5,z6,z7,z8,z9,z10]/\oX M cs tls c d wt l st Mi) (fun τ Mi=>(W tls (fun _=>1) [c] c).toNat - flen Mi d) ⟨[],[([],[c])],none,none,none,none,none,none,rfl,p0⟩ ?_
  rintro τ Mi ⟨l,st,z5,z6,z7,z8,z9,z10,rfl,p⟩
  have hall:=p.all hT
  have hv:view Mi (.ref wt)=.lst (st.map lG):=by simp only [view,p.hw]
  simp! only [hv]
  rcases List.eq_nil_or_concat st with rfl | ⟨st,x,rfl⟩
  ·simp only [List.map_nil,List.isEmpty_nil,Bool.not_true,Bool.false_eq_true,if_false]
   show V _ _
   subst hV
   simp! only [cT]
   exact aS (q d wt l Mi p)
  ·rw [List.concat_eq_append] at *
   have hne:(List.map lG (st++[x])).isEmpty=false:=by simp
   obtain ⟨hS,hxn,hxl⟩:=p.ok x (by simp)
   have hsl:=hS.len
   have hcs:=hT.len
   obtain ⟨cl,e0,hce⟩:∃ cl e0,x.2=cl++[e0]:=⟨x.2.dropLast,x.2.getLast hxn,(List.dropLast_concat_getLast hxn).symm⟩
   have hlast:dE x c=e0:=by unfold dE;rw [hce];simp
   have hcc:dE x c∈cs:=hS.sub _ (by rw [hlast,hce];simp)
   simp only [hne,Bool.not_false,if_true]
   refine aP fun V1 hV1=>?_
   have hm1:(st++[x]).map lG=st.map lG++[lG x]:=by simp
   simp! only [bJ,hName,p.hw,hm1,Iz,GZ]
   refine ⟨⟨_,hv⟩,?_⟩
   subst hV1
   refine aP fun V1 hV1=>?_
   simp! only [bJ,hName,lG]
   subst hV1
   refine aP fun V1 hV1=>?_
   simp! only [bJ,hName,lG]
   subst hV1
   refine aP fun V1 hV1=>?_
   have hat:cK (x.2.map U.str) (-1)=some (.str e0):=by rw [hce];simp only [List.map_append,List.map_cons,List.map_nil,xC]
   simp! only [i5,NQ,hat]
   have dokl:(l.map fun e=>((Sum.inr e.1:Key),U.ref e.2.1)).length < sizeLine:=big (by have:=p.keys;rw [List.length_map];omega)
   have fin:∀ (M2:aH) (l':List (Str × Addr × List U)),M2 wt=some (.lst (st.map lG))->oX M cs tls c d wt l' (st++mB x c (fH tls)) (mup M2 wt (.lst ((st++mB x c (fH tls)).map lG)))->(l'.map fun e=>e.2.2.length).sum=(l.map fun e=>e.2.2.length).sum + 1 ->
     V1 [some (fD cs tls),some (U.str c),some (U.lst (List.map m6 (fH tls))),some (U.ref d),some (U.ref wt),some (U.tup [U.lst (List.map U.int x.fst),U.lst (List.map U.str x.snd)]),some (U.lst (List.map U.int x.fst)),some (U.lst (List.map U.str x.snd)),z8,z9,z10] M2:=by
    intro M2 l' hw2 p2 hsum
    subst hV1
    refine cP (S:=⟨none,(fH tls).map m6⟩) (M1:=M2) (fun R r=>by simp! only [true_and];exact r)
     (fun i τ Mj=>∃ (y8 y9 y10:Option U),τ=[some (fD cs tls),some (U.str c),some (U.lst (List.map m6 (fH tls))),some (U.ref d),some (U.ref wt),some (U.tup [U.lst (List.map U.int x.fst),U.lst (List.map U.str x.snd)]),some (U.lst (List.map U.int x.fst)),some (U.lst (List.map U.str x.snd)),y8,y9,y10]/\Mj=mup M2 wt (.lst ((st++mB x c ((fH tls).take i)).map lG))) ⟨z8,z9,z10,rfl,by simp [mB,DW hw2]⟩ nk ?_ ?_
    ·rintro i u τ Mj e ⟨y8,y9,y10,rfl,rfl⟩
     have e':((fH tls).map m6)[i]?=some u:=e
     rw [List.getElem?_map] at e'
     cases hj:(fH tls)[i]? with
     | none=>rw [hj] at e';cases e'
     | some pp =>
      rw [hj] at e'
      cases e'
      have hi:=(List.getElem?_eq_some_iff.mp hj).1
      have hnext:mB x c ((fH tls).take (i + 1))=mB x c ((fH tls).take i)++(if pp.2.1=dE x c/\pp.2.2 ∉ x.2 then [(x.1++[(pp.1:Int)],x.2++[pp.2.2])] else []):=by
       rw [List.take_add_one,hj]
       unfold mB
       rw [List.filterMap_append]
       congr 1
       by_cases h:pp.2.1=dE x c/\pp.2.2 ∉ x.2
       ·rw [if_pos h];simp [h]
       ·rw [if_neg h];simp [h]
      have hgl:(mB x c ((fH tls).take i)).length<=14:=by
       unfold mB
       refine Nat.le_trans (List.length_filterMap_le _ _) ?_
       rw [List.length_take];omega
      refine ⟨rfl,?_⟩
      simp! only [m6,bV,bM,cB,hName]
      refine dY fun A B hA hB=>?_
      have hno:(¬ (pp.2.1=dE x c/\pp.2.2 ∉ x.2))->B (mup M2 wt (.lst ((st++mB x c ((fH tls).take i)).map lG))):=fun h=>by
       rw [if_neg h,List.append_nil] at hnext
       subst hB
       simp only [cN]
       exact ⟨_,_,_,rfl,by rw [hnext]⟩
      have hyes:(pp.2.1=dE x c/\pp.2.2 ∉ x.2)->A (mup M2 wt (.lst ((st++mB x c ((fH tls).take i)).map lG))):=fun h=>by
       rw [if_pos h] at hnext
       subst hA
       have hlen1:(x.1.map U.int).length + 1<=sizeLine:=small (by rw [List.length_map];omega)
       have hlen2:(x.2.map U.str).length + 1<=sizeLine:=small (by rw [List.length_map];omega)
       simp! only [i5]
       refine ⟨eN,hlen1,hlen2,?_,_,_,_,rfl,?_⟩
       ·rw [List.length_map,List.length_append,PySem.sizeLine_eq]
        have h9:=hall
        rw [List.length_append] at h9
        simp at h9
        omega
       ·rw [hnext];simp [lG]
      simp! only [hat]
      rw [<- hlast]
      refine gX (fun h1=>⟨rfl,xT _,?_⟩) (fun h1=>hno fun z=>h1 (decide_eq_true z.1))
      rw [nP]
      refine gX (fun h2=>hyes ⟨of_decide_eq_true h1,?_⟩) (fun h2=>hno fun z=>?_)
      ·simpa using h2
      ·simp at h2;exact z.2 h2
    ·rintro τ Mj ⟨y8,y9,y10,rfl,rfl⟩
     have hl3:(Src.mk none ((fH tls).map m6)).xs.length=(fH tls).length:=by show ((fH tls).map m6).length=_;simp
     rw [hl3,List.take_length]
     refine ⟨⟨l',_,_,_,_,_,_,_,rfl,p2⟩,?_⟩
     rw [p2.flen,p.flen,hsum]
     rw [List.length_append] at hall
     simp at hall
     omega
   refine ⟨by simp only [wL,kC,aK p.dw,p.hd],fun r0 hr0=>?_⟩
   have hr0w:r0≠wt:=fun z=>by rw [z,aI] at hr0;cases hr0
   have hr0i:Mi r0=none:=by rw [aK hr0w] at hr0;exact hr0
   have hr0d:r0≠d:=fun z=>by rw [z,p.hd] at hr0i;cases hr0i
   rw [aK (Ne.symm hr0d),aK p.dw,p.hd]
   simp only [kW]
   refine ⟨dokl,?_⟩
   rw [<- hlast]
   cases hvu:cD (l.map fun e=>((Sum.inr e.1:Key),U.ref e.2.1)) (Sum.inr (dE x c)) with
   | some u =>
    obtain ⟨l1,e,l2,rfl,he,rfl⟩:=Dp hvu
    have ps:=p.stray (o:=.lst []) hr0i
    obtain ⟨k1,k2,k3,k4⟩:=p.hl e (by simp)
    have her:e.2.1≠r0:=fun z=>by rw [<- z,k1] at hr0i;cases hr0i
    have hm2:mup (mup Mi wt (.lst (st.map lG))) r0 (.lst []) e.2.1=some (.lst e.2.2):=by rw [aK her,aK k4];exact k1
    dsimp only
    rw [hm2]
    refine ⟨⟨_,gF hm2⟩,(by have:=O8 (l:=l1++e :: l2) (e:=e) (by simp);rw [PySem.sizeLine_eq];omega),?_⟩
    have pn:=N4 (u:=U.lst (x.1.map U.int)) ps he (F6 hT hS hxl) fun f=>J6 hT hS f
    rw [q9 (M:=Mi) hr0w] at pn
    refine fin _ _ ?_ pn (by simp;omega)
    rw [aK (Ne.symm k4),aK (Ne.symm hr0w),aI]
   | none =>
    have pn:=OU (u:=U.lst (x.1.map U.int)) p hr0 hcc (OJ hvu) (F6 hT hS hxl) fun f=>J6 hT hS f
    have hm2:mup (mup (mup Mi wt (.lst (st.map lG))) r0 (.lst [])) d (.dK (jJ (l.map fun e=>((Sum.inr e.1:Key),U.ref e.2.1)) (Sum.inr (dE x c)) (.ref r0))) r0=some (.lst []):=by rw [aK hr0d,aI]
    dsimp only
    rw [hm2]
    refine ⟨⟨_,gF hm2⟩,by decide,?_⟩
    rw [nH hvu,q9 hr0d,gG]
    refine fin _ _ ?_ pn (by simp)
    rw [aK (Ne.symm hr0w),aK (Ne.symm p.dw),aI]
theorem Br (C:Callee P w K mg base 2 "pass_chains" EA []):Callee P w K mg base 2 "pass_chains" Gr []:=by
 refine U2.Callee.conv C fun us M Q h=>?_
 obtain ⟨cs,tls,c,rfl,hT,hc,q⟩:=h
 refine ⟨cs,tls,c,rfl,hT,hc,fun d w l Mi p=>?_⟩
 have hk:=p.keys
 have hl:=hT.len
 have e:(l.map fun e=>((Sum.inr e.1:Key),U.lst e.2.2))=kA (l.map fun e=>(e.1,e.2.2)):=by simp [kA]
 have hd:=p.hd
 refine OM (l:=l.map fun e=>((Sum.inr e.1:Key),e.2.1,e.2.2)) p.sub (by rw [hd];simp) (fun e he=>?_) p.dn ?_
 ·obtain ⟨x,hx,rfl⟩:=List.mem_map.mp he
  exact ⟨(p.hl x hx).1,(p.hl x hx).2.1⟩
 ·have e2:((l.map fun e=>((Sum.inr e.1:Key),e.2.1,e.2.2)).map fun e=>(e.1,U.lst e.2.2))=kA (l.map fun e=>(e.1,e.2.2)):=by rw [List.map_map];exact e
  rw [e2]
  refine q _ ⟨fun f=>?_,by rw [List.length_map];omega⟩
  have:=p.cnt f
  simp only [List.map_nil,List.sum_nil,Int.add_zero] at this
  rw [List.map_map];exact this
noncomputable def C9 (tls:List Tl) (cs:List Str) (kvs:List (Key × U)):Prop:=(∀ e∈kvs,∃ c,e.1=Sum.inr c/\c∈cs)/\(∀ c∈cs,∃ l,GW tls c l/\cD kvs (Sum.inr c)=some (eG (kA l)))/\kvs.length<=1000
noncomputable def Gq:c8:=fun us M Q=>∃ (cs:List Str) (tls:List Tl),us=[fD cs tls]/\dN cs tls/\∀ kvs:List (Key × U),C9 tls cs kvs->Q (eG kvs) M
noncomputable def Ef:c8:=fun us M Q=>∃ (cs:List Str) (tls:List Tl),us=[fD cs tls]/\dN cs tls/\∀ (kvs:List (Key × U)) (d:Addr),M d=none->C9 tls cs kvs->Q (.ref d) (mup M d (.dK kvs))
theorem J1 (F:cW K "all_chains" "all_chains" qQ f fd) (hm:mg "all_chains"=some (.ref f)) (CI:Callee P w K mg base 2 "pass_chains" Gr []):Callee P w K mg base 3 "all_chains" Ef []:=by
 refine bF F hm pG (nB fun _ _ _ _ _ _ _=>rfl) (aD (aO 1 pG.nd (lD false))
 (aD (cS (c9 (aG (uv 0) aF)) (aN (k:=1000) 2 pG.nd)
 (aE (kX false mF (aR CI (aA (uv 0) (aA (uv 2) aB))) (uv 1) (uv 2))))
 (aE (aV (uv 1))))) ?_
 rintro us M Q ⟨cs,tls,rfl,hT,q⟩
 refine ⟨rfl,?_⟩
 have hcs:=hT.len
 refine aP fun V hV=>?_
 simp! only [bJ,hName,aJ]
 intro d hd
 subst hV
 refine aP fun V hV=>?_
 refine cP (S:=⟨none,cs.map U.str⟩) (M1:=mup M d (.dK [])) (fun R r=>by simp! only [jP,iV,aJ];exact r)
  (fun i τ Mi=>∃ (kvs:List (Key × U)) (z:Option U),τ=[some (fD cs tls),some (.ref d),z]/\Mi=mup M d (.dK kvs)/\kvs.length<=i/\(∀ e∈kvs,∃ c,e.1=Sum.inr c/\c∈cs)/\∀ c∈cs.take i,∃ l,GW tls c l/\cD kvs (Sum.inr c)=some (eG (kA l))) ⟨[],none,rfl,rfl,by simp,by simp,by simp⟩ nk ?_ ?_
 ·rintro i x τ Mi e ⟨kvs,z,rfl,rfl,hl,hk,hv⟩
  have e':(cs.map U.str)[i]?=some x:=e
  rw [List.getElem?_map] at e'
  cases hj:cs[i]? with
  | none=>rw [hj] at e';cases e'
  | some c =>
   rw [hj] at e'
   cases e'
   have hi:=(List.getElem?_eq_some_iff.mp hj).1
   have hc:=List.mem_of_getElem? hj
   simp! only [hName,oP,aJ]
   refine ⟨cs,tls,c,rfl,hT,hc,fun l hch=>?_⟩
   simp! only [kW,aJ]
   refine ⟨big (by omega),_,_,rfl,rfl,?_,fun e he=>?_,fun c' hc'=>?_⟩
   ·have:=nD kvs (Sum.inr c) (eG (kA l));omega
   ·rcases JX kvs _ _ e he with h | h
    ·exact ⟨c,h,hc⟩
    ·obtain ⟨x,hx,h2⟩:=List.mem_map.mp h
     rw [<- h2];exact hk x hx
   ·rw [nK]
    by_cases h:(Sum.inr c':Key)=Sum.inr c
    ·cases h
     exact ⟨l,hch,if_pos rfl⟩
    ·rw [if_neg h]
     rw [List.take_add_one,hj] at hc'
     rcases List.mem_append.mp hc' with h2 | h2
     ·exact hv c' h2
     ·simp at h2;exact absurd (by rw [h2]) h
 ·rintro τ Mi ⟨kvs,z,rfl,rfl,hl,hk,hv⟩
  have hl3:(Src.mk none (cs.map U.str)).xs.length=cs.length:=by show (cs.map U.str).length=_;simp
  rw [hl3] at hl hv
  rw [List.take_length] at hv
  subst hV
  simp! only [cT,aJ]
  exact aS (q kvs d hd ⟨hk,hv,by omega⟩)
theorem CP (C:Callee P w K mg base 3 "all_chains" Ef []):Callee P w K mg base 3 "all_chains" Gq []:=by
 refine U2.Callee.conv C fun us M Q h=>?_
 obtain ⟨cs,tls,rfl,hT,q⟩:=h
 exact ⟨cs,tls,rfl,hT,fun kvs d hd hA=>DL ((Sub.refl M).mup hd) aI hd (q kvs hA)⟩
noncomputable def n6 (tls:List Tl) (cs:List Str) (t:Tr) (ps:List (List Nat)) (kvs:List (List Key × U)):Prop:=kvs.map (·.1)=ps.map pk/\∀ p∈ps,∃ t' kv2,t.at p=some t'/\cD kvs (pk p)=some (eG kv2)/\∀ c∈cs,cD kv2 (Sum.inr c)=some (.int (cnt tls t' c))
theorem KY {a b:Int} {n:Nat} (hn:n<=1000) (h1:0<=a) (h2:a<=2 ^ (64 * n)) (h3:0<=b) (h4:b<=2 ^ (64 * n)):oF a b:=.inr ⟨by have:=Gu h1 h2;omega,by have:=Gu h3 h4;omega⟩
noncomputable def fA (l:List Int):Int:=l.foldl (· * ·) 1
theorem Kh (l:List Int):∀ a:Int,l.foldl (· * ·) a=a * fA l:=by
 induction l with
 | nil=>intro a;simp [fA]
 | cons x r ih =>
  intro a
  have h1:=ih (a * x)
  have h2:=ih (1 * x)
  unfold fA at *
  rw [List.foldl_cons,List.foldl_cons,h1,h2]
  rw [Int.one_mul,Int.mul_assoc]
theorem AV (l:List Int) (x:Int):fA (l++[x])=fA l * x:=by unfold fA;rw [List.foldl_append];rfl
theorem oC (g:Tr->Str->Int):∀ l:List (Tr × Str),iD g l=fA (l.map fun x=>g x.1 x.2)
 | []=>rfl
 | x :: r=>by
  rw [iD,oC g r,List.map_cons]
  show _=(List.map (fun x=>g x.1 x.2) r).foldl (· * ·) (1 * g x.1 x.2)
  rw [Kh,Int.one_mul]
theorem Az {cs:List Str} {tls:List Tl} (hT:dN cs tls) {tl:Tl} {t:Tr} (hl:bP tl.pt t=true) (i:Nat):0<=fA (((bS tl.pt t).take i).map fun x=>cnt tls x.1 x.2)/\fA (((bS tl.pt t).take i).map fun x=>cnt tls x.1 x.2)<=2 ^ (64 * t.size):=by
 have hs:=kJ tl.pt t hl
 obtain ⟨h1,h2⟩:=vG (g:=cnt tls) ((bS tl.pt t).take i) fun x _=>xA hT _ x.1 (Nat.le_refl _) x.2
 rw [oC] at h1 h2
 refine ⟨h1,Int.le_trans h2 (x8 (Nat.mul_le_mul_left _ ?_))⟩
 have e:((bS tl.pt t).map (·.1)).map Tr.size=(K25.hT tl.pt t).map Tr.size:=rfl
 have:((((bS tl.pt t).take i).map (·.1)).map Tr.size).sum<=(((bS tl.pt t).map (·.1)).map Tr.size).sum:=by
  rw [List.map_take,List.map_take]
  have h3:=List.take_append_drop i (((bS tl.pt t).map (·.1)).map Tr.size)
  have h4:=congrArg List.sum h3
  rw [List.sum_append] at h4
  omega
 rw [e] at this
 omega
noncomputable def k7 (g:Ld->Int) (ls:List Ld) (c:Str):Int:=(ls.map fun l=>if l.cls=c then g l else 0).sum
noncomputable def yF (top:Str->Int) (kvs:List (Key × U)):Prop:=(∀ c:Str,(cD kvs (Sum.inr c)=some (.int (top c)))\/(cD kvs (Sum.inr c)=none/\top c=0))/\kvs.length<=1000
structure Ik (tls:List Tl) (cs:List Str) (t:Tr) (kvs:List (List Key × U)) (l:Ld) (ns:List Int) (B:Nat):Prop where
 len:ns.length=l.spots.length
 small:l.spots.length<=64
 at':∀ (i:Nat) s,l.spots[i]?=some s->∃ kv2 v,cD kvs (pk s.1)=some (eG kv2)/\cD kv2 (Sum.inr s.2)=some (.int v)/\ns[i]?=some v
 lo:∀ n∈ns,0<=n/\n<=2 ^ (64 * B)
 pre:∀ i,0<=fA (ns.take i)/\fA (ns.take i)<=2 ^ (64 * B)
noncomputable def Ej:c8:=fun us M Q=>∃ (tls:List Tl) (cs:List Str) (t:Tr) (ls:List Ld) (ct:U) (kvs:List (List Key × U)) (g:Ld->Int) (B:Nat),us=[.lst (ls.map Ld.toU),ct]/\kC M ct=some (.dT kvs)/\B<=1000/\ls.length<=100/\(∀ l∈ls,∃ ns,Ik tls cs t kvs l ns B/\g l=fA ns)/\∀ (kv:List (Key × U)) (d:Addr),M d=none->yF (k7 g ls) kv->Q (.ref d) (mup M d (.dK kv))
noncomputable def Gy:c8:=fun us M Q=>∃ (tls:List Tl) (cs:List Str) (t:Tr) (ls:List Ld) (ct:U) (kvs:List (List Key × U)) (g:Ld->Int) (B:Nat),us=[.lst (ls.map Ld.toU),ct]/\kC M ct=some (.dT kvs)/\B<=1000/\ls.length<=100/\(∀ l∈ls,∃ ns,Ik tls cs t kvs l ns B/\g l=fA ns)/\∀ (kv:List (Key × U)),yF (k7 g ls) kv->Q (eG kv) M
theorem GG {M:aH} {x:U} {d:Addr} {o:MO} {mo:MO} (hd:M d=none) (h:kC M x=some mo):kC (mup M d o) x=some mo:=by
 cases x with
 | ref a=>exact (aK (fun z=>by subst z;rw [show kC M (.ref a)=M a from rfl,hd] at h;cases h)).trans h
 | dic ks tk us=>cases tk <;> exact h
 | _=>cases h
theorem Jp (F:cW K "first_counts" "first_counts" nI f fd) (hm:mg "first_counts"=some (.ref f)):Callee P w K mg base 1 "first_counts" Ej []:=by
 refine bF F hm dD (kP fun _ _ _ _ _ _ _ _=>rfl) (aD (aO 2 dD.nd (lD false))
 (aD (cS (c9 (uv 0)) (eJ (n:=4) (bB (aN (k:=1000) 3 dD.nd) (bB (aN (k:=1000) 4 dD.nd) (bB (aN (k:=1000) 5 dD.nd) (bB (aN (k:=1000) 6 dD.nd) dH)))))
 (aD (aO 7 dD.nd aF)
 (aD (cS (c9 (uv 6)) (eJ (n:=2) (bB (aN (k:=1000) 8 dD.nd) (bB (aN (k:=1000) 9 dD.nd) dH)))
 (aE (aO 7 dD.nd (gH (own:=false) (uv 7) (iP false mF (iP true (fun _=>True.intro) (uv 1) (uv 8)) (uv 9))))))
 (aE (kX false mF (bL (own:=false) (DT false mF (uv 2) (uv 4) aF) (uv 7)) (uv 2) (uv 4))))))
 (aE (aV (uv 2))))) ?_
 rintro us M Q ⟨tls,cs,t,ls,ct,kvs,g,B,rfl,hct,hB,hll,jD,q⟩
 refine ⟨rfl,?_⟩
 refine aP fun V hV=>?_
 simp! only [bJ,hName,aJ]
 intro d hd
 subst hV
 refine aP fun V hV=>?_
 refine cP (S:=⟨none,ls.map Ld.toU⟩) (M1:=mup M d (.dK [])) (fun R r=>by simp! only [aJ];exact r)
  (fun i τ Mi=>∃ (kv:List (Key × U)) (z3 z4 z5 z6 z7 z8 z9:Option U),τ=[some (.lst (ls.map Ld.toU)),some ct,some (.ref d),z3,z4,z5,z6,z7,z8,z9]/\Mi=mup M d (.dK kv)/\yF (k7 g (ls.take i)) kv/\kv.length<=i) ⟨[],none,none,none,none,none,none,none,rfl,rfl,⟨fun c=>.inr ⟨rfl,by simp [k7]⟩,by simp⟩,by simp⟩ nk ?_ ?_
 ·rintro i x τ Mi e ⟨kv,z3,z4,z5,z6,z7,z8,z9,rfl,rfl,hf,hkl⟩
  have e':(ls.map Ld.toU)[i]?=some x:=e
  rw [List.getElem?_map] at e'
  cases hj:ls[i]? with
  | none=>rw [hj] at e';cases e'
  | some l =>
   rw [hj] at e'
   cases e'
   have hi:=(List.getElem?_eq_some_iff.mp hj).1
   obtain ⟨ns,hL,hg⟩:=jD l (List.mem_of_getElem? hj)
   have hct2:kC (mup M d (.dK kv)) ct=some (.dT kvs):=GG hd hct
   refine ⟨rfl,?_⟩
   simp! only [Ld.toU,bV,bM,cB,hName,aJ]
   refine aP fun V1 hV1=>?_
   simp! only [bJ,hName,aJ]
   subst hV1
   refine aP fun V1 hV1=>?_
   refine cP (S:=⟨none,l.spots.map jK⟩) (M1:=mup M d (.dK kv)) (fun R r=>by simp! only [aJ];exact r)
    (fun k τ Mi=>∃ (y8 y9:Option U),τ=[some (.lst (ls.map Ld.toU)),some ct,some (.ref d),some (.int l.n),some (.str l.cls),some (.int l.price),some (.lst (l.spots.map jK)),some (.int (fA (ns.take k))),y8,y9]/\Mi=mup M d (.dK kv)) ⟨z8,z9,by simp [fA],rfl⟩ nk ?_ ?_
   ·rintro k y τ Mi ek ⟨y8,y9,rfl,rfl⟩
    have ek':(l.spots.map jK)[k]?=some y:=ek
    rw [List.getElem?_map] at ek'
    cases hk:l.spots[k]? with
    | none=>rw [hk] at ek';cases ek'
    | some s =>
     rw [hk] at ek'
     cases ek'
     obtain ⟨kv2,v,h1,h2,h3⟩:=hL.at' k s hk
     obtain ⟨hv0,hv1⟩:=hL.lo v (List.mem_of_getElem? h3)
     obtain ⟨hp0,hp1⟩:=hL.pre k
     refine ⟨rfl,?_⟩
     have lk1:=t5 s.1 hct2
     have lk2:=nA (M:=mup M d (.dK kv)) s.2 (jY _ kv2)
     rw [h1] at lk1
     rw [h2] at lk2
     simp! only [bJ,jK,bV,bM,cB,hName,lk1,lk2,aJ]
     have hpn:fA (ns.take (k + 1))=fA (ns.take k) * v:=by rw [List.take_add_one,h3,show (some v).toList=[v] from rfl,AV]
     exact ⟨KY hB hp0 hp1 hv0 hv1,some (aU s.1),some (.str s.2),by rw [hpn]⟩
   ·rintro τ Mi ⟨y8,y9,rfl,rfl⟩
    have hl3:(Src.mk none (l.spots.map jK)).xs.length=ns.length:=by show (l.spots.map jK).length=_;rw [List.length_map,hL.len]
    rw [hl3,List.take_length,<- hg]
    subst hV1
    have lk3:=nA (M:=mup M d (.dK kv)) (x:=.ref d) l.cls aI
    simp! only [oP,Hg (M:=mup M d (.dK kv)) (x:=.ref d) aI,lk3,aJ]
    have hsum:∀ c:Str,k7 g (ls.take (i + 1)) c=k7 g (ls.take i) c + (if l.cls=c then g l else 0):=fun c=>by
     unfold k7
     rw [List.take_add_one,hj,List.map_append,List.sum_append]
     simp
    have hput:∀ v:Int,v=k7 g (ls.take i) l.cls + g l->yF (k7 g (ls.take (i + 1))) (jJ kv (Sum.inr l.cls) (.int v))/\(jJ kv (Sum.inr l.cls) (.int v)).length<=i + 1:=fun v hv=>by
     have hpl:=nD kv (Sum.inr l.cls) (.int v)
     refine ⟨⟨fun c=>?_,by omega⟩,by omega⟩
     rw [nK,hsum]
     by_cases hc:(Sum.inr c:Key)=Sum.inr l.cls
     ·cases hc
      rw [if_pos rfl,if_pos rfl,hv];exact .inl rfl
     ·rw [if_neg hc,if_neg (fun z=>hc (by rw [z]))]
      have:=hf.1 c
      simpa using this
    rcases hf.1 l.cls with h | ⟨h,h0⟩
    ·rw [h]
     simp! only [kW,aJ]
     obtain ⟨g1,g2⟩:=hput _ rfl
     exact ⟨big (by omega),_,_,_,_,_,_,_,_,rfl,rfl,g1,g2⟩
    ·rw [h]
     simp! only [Option.getD_none,kW,aJ]
     obtain ⟨g1,g2⟩:=hput (0 + g l) (by rw [h0])
     exact ⟨big (by omega),_,_,_,_,_,_,_,_,rfl,rfl,g1,g2⟩
 ·rintro τ Mi ⟨kv,z3,z4,z5,z6,z7,z8,z9,rfl,rfl,hf,hkl⟩
  have hl3:(Src.mk none (ls.map Ld.toU)).xs.length=ls.length:=by show (ls.map Ld.toU).length=_;simp
  rw [hl3,List.take_length] at hf
  subst hV
  simp! only [cT,aJ]
  exact aS (q kv d hd hf)
theorem Bf (C:Callee P w K mg base 1 "first_counts" Ej []):Callee P w K mg base 1 "first_counts" Gy []:=by
 refine U2.Callee.conv C fun us M Q h=>?_
 obtain ⟨tls,cs,t,ls,ct,kvs,g,B,rfl,hct,hB,hll,jD,q⟩:=h
 exact ⟨tls,cs,t,ls,ct,kvs,g,B,rfl,hct,hB,hll,jD,fun kv d hd hf=>DL ((Sub.refl M).mup hd) aI hd (q kv hf)⟩
theorem MP {t:Tr} {A B:List (List Nat)} {p q:List Nat} (hs:t.places=A++p :: B) (hq:q∈t.places) (hp:p <+: q) (hn:q≠p):q∈B:=by
 have h:=mT t
 rw [hs] at h hq
 rcases List.mem_append.mp hq with h1 | h1
 ·exact absurd hp ((List.pairwise_append.mp h).2.2 q h1 p List.mem_cons_self)
 ·rcases List.mem_cons.mp h1 with h2 | h2
  ·exact absurd h2 hn
  ·exact h2
noncomputable def vQ (tls:List Tl) (t:Tr) (s:List Nat × Str):Int:=match t.at s.1 with
 | some t'=>cnt tls t' s.2
 | none=>0
noncomputable def IH (tls:List Tl) (t:Tr) (l:Ld):Int:=fA (l.spots.map (vQ tls t))
theorem xF {tls:List Tl} {t t':Tr} {p:List Nat} {pt:Pt} (ht:t.at p=some t') (hl:bP pt t'=true):((jD pt).map fun e=>(p++e.1,e.2)).map (vQ tls t)=(bS pt t').map fun x=>cnt tls x.1 x.2:=by
 obtain ⟨bs,h1,_,h3⟩:=qL pt t' [] hl
 have h0:=(qA pt t' [] hl).1
 refine List.ext_getElem? fun i=>?_
 rw [List.map_map,List.getElem?_map,List.getElem?_map]
 cases hi:(jD pt)[i]? with
 | none =>
  have:(bS pt t')[i]?=none:=by
   rw [List.getElem?_eq_none_iff] at hi ⊢
   have e:(jD pt).length=(bS pt t').length:=h0
   omega
  rw [this];rfl
 | some e =>
  have hb:i < bs.length:=by
   have:=(List.getElem?_eq_some_iff.mp hi).1
   have e2:(jD pt).length=bs.length:=h1.symm
   omega
  obtain ⟨s,t'',e1,e2,_,_,e5⟩:=h3 i e bs[i] hi (List.getElem?_eq_getElem hb)
  rw [e5]
  simp only [Option.map_some,Function.comp,vQ]
  rw [List.nil_append] at e1
  rw [e1,xH t p s t' ht,e2]
theorem FZ {tls:List Tl} {t t':Tr} {p:List Nat} (ht:t.at p=some t') (c:Str):∀ (l:List Tl) (k:Nat),(∀ j,tls[k + j]?=l[j]?)->k7 (IH tls t) ((dJ t' p k l).filter fun l=>!rR tls l) c=iF (cnt tls) t' c l
 | [],k,_=>by simp [dJ,k7,iF]
 | a :: l,k,h=>by
  have h0:tls[k]?=some a:=by simpa using h 0
  have ih:=FZ ht c l (k + 1) fun j=>by
   have:=h (j + 1)
   rw [show k + 1 + j=k + (j + 1) by omega,this];simp
  simp only [dJ,iF]
  rw [List.filter_append]
  unfold k7 at ih ⊢
  rw [List.map_append,List.sum_append,ih]
  congr 1
  by_cases hl:bP a.pt t'=true
  ·rw [if_pos hl]
   have hp:rR tls ⟨k,a.cls,a.cost,(jD a.pt).map fun e=>(p++e.1,e.2)⟩=a.pass:=by unfold rR;simp only [h0]
   rw [List.filter_cons,hp]
   cases hpp:a.pass with
   | true=>simp
   | false =>
    simp only [Bool.not_false,if_true,List.filter_nil,List.map_cons,List.map_nil,List.sum_cons,List.sum_nil,Int.add_zero,hl,true_and]
    by_cases hc:a.cls=c
    ·rw [if_pos hc,if_pos hc,oC]
     unfold IH
     rw [xF ht hl]
    ·rw [if_neg hc,if_neg hc]
  ·rw [if_neg hl,if_neg (fun z=>hl z.2.1)];simp
theorem Kc {tls:List Tl} {t t':Tr} {p:List Nat} (ht:t.at p=some t') (c:Str):k7 (IH tls t) (l8 tls t p) c=topC tls t' c:=by
 unfold l8
 rw [ht]
 exact FZ ht c tls 0 fun j=>by rw [Nat.zero_add]
theorem J7 {cs:List Str} {tls:List Tl} {t t':Tr} {p:List Nat} {A B:List (List Nat)} {kvs:List (List Key × U)} (hT:dN cs tls) (hs:t.places=A++p :: B) (ht:t.at p=some t') (hc:n6 tls cs t B.reverse kvs):∀ l∈l8 tls t p,Ik tls cs t kvs l (l.spots.map (vQ tls t)) t.size:=fun l hl=>by
 unfold l8 at hl
 rw [ht] at hl
 obtain ⟨hl1,hl2⟩:=List.mem_filter.mp hl
 obtain ⟨_,tl,h2,_,_,hlie,hsp⟩:=Eb t' p tls 0 l hl1
 rw [Nat.sub_zero] at h2
 have htl:=List.mem_of_getElem? h2
 have hps:tl.pass=false:=by
  unfold rR at hl2
  rw [h2] at hl2
  simpa using hl2
 have hdep:=hT.dep tl htl
 have hsz:=tX t p t' ht
 refine ⟨by simp,?_,fun i s hi=>?_,fun n hn=>?_,fun i=>?_⟩
 ·rw [hsp,List.length_map];exact Gi tl.pt (by omega)
 ·have hi':=hi
  rw [hsp,List.getElem?_map] at hi
  cases he:(jD tl.pt)[i]? with
  | none=>rw [he] at hi;cases hi
  | some e =>
   rw [he] at hi
   cases hi
   obtain ⟨bs,h1,_,h3⟩:=qL tl.pt t' [] hlie
   have hb:i < bs.length:=by
    have:=(List.getElem?_eq_some_iff.mp he).1
    have e2:(jD tl.pt).length=bs.length:=h1.symm
    omega
   obtain ⟨s,t'',e1,e2,_,e4,e5⟩:=h3 i e bs[i] he (List.getElem?_eq_getElem hb)
   rw [List.nil_append] at e1
   have hne:e.1≠[]:=fun z=>by
    obtain ⟨c,hh⟩:=e4 (by rw [<- e1];exact z)
    obtain ⟨nm,cl,pt,co⟩:=tl
    simp only at hh;subst hh
    cases hps
   have hat:t.at (p++e.1)=some t'':=by rw [e1,xH t p s t' ht];exact e2
   have hmem:=MP hs (mC t _ _ hat) (List.prefix_append p e.1) (fun z=>hne (by simpa using z))
   obtain ⟨t3,kv2,g1,g2,g3⟩:=hc.2 (p++e.1) (List.mem_reverse.mpr hmem)
   rw [hat] at g1;cases g1
   have hcl:e.2∈cs:=by
    refine hT.hole tl htl e.2 ?_
    rw [<- oY tl.pt t' hlie]
    exact List.mem_map.mpr ⟨(t'',e.2),List.mem_of_getElem? e5,rfl⟩
   refine ⟨kv2,cnt tls t'' e.2,g2,g3 _ hcl,?_⟩
   rw [List.getElem?_map,hi']
   simp only [Option.map_some,vQ,hat]
 ·obtain ⟨s,_,rfl⟩:=List.mem_map.mp hn
  unfold vQ
  split
  ·rename_i t3 h3
   have:=tX t s.1 t3 h3
   obtain ⟨g1,g2⟩:=xA hT _ t3 (Nat.le_refl _) s.2
   exact ⟨g1,Int.le_trans g2 (x8 (Nat.mul_le_mul_left _ this))⟩
  ·exact ⟨Int.le_refl _,Int.le_of_lt (Int.pow_pos (by decide))⟩
 ·rw [hsp,xF ht hlie,<- List.map_take]
  obtain ⟨g1,g2⟩:=Az hT (tl:=tl) hlie i
  exact ⟨g1,Int.le_trans g2 (x8 (Nat.mul_le_mul_left _ hsz))⟩
theorem Sl {cs:List Str} {tls:List Tl} {t t':Tr} {p:List Nat} {A B:List (List Nat)} {kvs:List (List Key × U)} (hT:dN cs tls) (hs:t.places=A++p :: B) (ht:t.at p=some t') (hc:n6 tls cs t B.reverse kvs):∀ l∈l8 tls t p,∃ ns,Ik tls cs t kvs l ns t.size/\IH tls t l=fA ns:=fun l hl=>⟨_,J7 hT hs ht hc l hl,rfl⟩
theorem Ky (tls:List Tl) (t:Tr) (ps:List (List Nat)):hZ true ((fL tls t ps).map (·.1))=ps.map aU:=by
 unfold hZ fL
 rw [List.map_map,List.map_map]
 exact List.map_congr_left fun p _=>QO p
theorem FH {tls:List Tl} {cs:List Str} {t t':Tr} {ps:List (List Nat)} {p:List Nat} {kvs:List (List Key × U)} {kv2:List (Key × U)} (h:n6 tls cs t ps kvs) (hn:p ∉ ps) (ht:t.at p=some t') (hc:∀ c∈cs,cD kv2 (Sum.inr c)=some (.int (cnt tls t' c))):n6 tls cs t (ps++[p]) (kvs++[(pk p,eG kv2)]):=by
 have hno:cD kvs (pk p)=none:=rP fun z=>by
  rw [h.1] at z
  obtain ⟨q,hq,e⟩:=List.mem_map.mp z
  exact hn (tW e ▸ hq)
 refine ⟨by simp [h.1],fun q hq=>?_⟩
 by_cases e:q=p
 ·subst e
  exact ⟨t',kv2,ht,by rw [rW hno,if_pos rfl],hc⟩
 ·rcases List.mem_append.mp hq with h2 | h2
  ·obtain ⟨t3,kv3,g1,g2,g3⟩:=h.2 q h2
   exact ⟨t3,kv3,g1,by rw [rW hno,if_neg (fun z=>e (tW z))];exact g2,g3⟩
  ·exact absurd (List.mem_singleton.mp h2) e
theorem E3 (l:List (Str × List U)):kI false ((kA l).map fun e=>[e.1]) ((kA l).map (·.2))=l.map fun e=>.tup [.str e.1,.lst e.2]:=by
 unfold kI kA
 induction l with
 | nil=>rfl
 | cons a r ih=>simp only [List.map_cons,List.zip_cons_cons,List.cons.injEq];exact ⟨rfl,ih⟩
theorem Rr {cs:List Str} {tls:List Tl} {c:Str} {l:List (Str × List U)} (hT:dN cs tls) (h:GW tls c l):∀ e∈l,e.2.length<=11390625:=fun e he=>by
 have h1:=h.cnt fun _=>1
 have h2:=Bi hT (f:=fun _=>1) (F:=1) (by decide) (fun _=>Int.le_refl _) [c] c
 have h3:(l.map fun e=>(e.2.length:Int) * 1).sum=(((l.map fun e=>e.2.length).sum:Nat):Int):=by
  clear h1 he h
  induction l with
  | nil=>rfl
  | cons a r ih=>rw [List.map_cons,List.map_cons,List.sum_cons,List.sum_cons,ih];push_cast;omega
 have h4:e.2.length<=(l.map fun e=>e.2.length).sum:=BD (List.mem_map.mpr ⟨e,he,rfl⟩)
 omega
theorem Lg {κ:Type} [DecidableEq κ] {kvs:List (κ × U)} {k:κ} {u:U} (h:cD kvs k=some u):∃ e∈kvs,e.1=k:=by
 induction kvs with
 | nil=>cases h
 | cons a r ih =>
  by_cases e:a.1=k
  ·exact ⟨a,List.mem_cons_self,e⟩
  ·rw [dC e] at h
   obtain ⟨x,hx,h2⟩:=ih h
   exact ⟨x,List.mem_cons_of_mem _ hx,h2⟩
noncomputable def EN:c8:=fun us M Q=>∃ (cs:List Str) (tls:List Tl) (t:Tr) (chs:List (Key × U)),us=[nR (fL tls t t.places),eG chs]/\dN cs tls/\t.size<=40/\C9 tls cs chs/\∀ (kvs:List (List Key × U)) (d:Addr) (Mi:aH),Sub M Mi->Mi d=some (.dT kvs)->M d=none->n6 tls cs t t.places.reverse kvs->Q (.ref d) Mi
noncomputable def FN:c8:=fun us M Q=>∃ (cs:List Str) (tls:List Tl) (t:Tr) (chs:List (Key × U)),us=[nR (fL tls t t.places),eG chs]/\dN cs tls/\t.size<=40/\C9 tls cs chs/\∀ (kvs:List (List Key × U)),n6 tls cs t t.places.reverse kvs->Q (nR kvs) M
theorem Ja (F:cW K "count_covers" "count_covers" nT f fd) (hm:mg "count_covers"=some (.ref f)) (iG:mg "reversed"=none) (tY:mg "list"=none) (l5:mg "sum"=none) (bK:mg "len"=none) (BH:Callee P w K mg base 1 "first_counts" Gy []):Callee P w K mg base 2 "count_covers" EN []:=by
 refine bF F hm hG (kP fun _ _ _ _ _ _ _ _=>rfl) (aD (aO 2 hG.nd (lD true))
 (aD (cS (yY iG (aA (Bx (Pg (own:=false)) tY (aA (uv 0) aB)) aB)) (aN (k:=1000) 3 hG.nd)
 (aD (aO 4 hG.nd (aR BH (aA (iP true (fun _=>True.intro) (uv 0) (uv 3)) (aA (uv 2) aB))))
 (aD (aO 5 hG.nd (lD false))
 (aD (cS (Pf (uv 1)) (aN (k:=1000) 6 hG.nd)
 (aE (kX false mF (dA QE l5 (aA (jR false ["end","numbers","first"] 2 [4] (MV (iP false mF (uv 1) (uv 6))) (eJ (n:=2) (bB (aN (k:=2) 0 (by dsimp only [cJ];decide +kernel)) (bB (aN (k:=2) 1 (by dsimp only [cJ];decide +kernel)) dH))) iS (gH (own:=false) (dA dW bK (aA (uv 1) aB)) (DT false mF (uv 2) (uv 0) aF))) aB)) (uv 5) (uv 6))))
 (aE (NL (kX true (fun _=>True.intro) (uv 5) (uv 2) (uv 3))))))))
 (aE (aV (uv 2))))) ?_
 rintro us M Q ⟨cs,tls,t,chs,rfl,hT,hs,hA,q⟩
 refine ⟨rfl,?_⟩
 have hpl:=iN t
 have hnd:=xG t
 have htl:=hT.many
 have hcs:=hT.len
 refine aP fun V hV=>?_
 simp! only [bJ,hName,aJ]
 intro d hd
 subst hV
 refine aP fun V hV=>?_
 refine cP (S:=⟨none,(t.places.map aU).reverse⟩) (M1:=mup M d (.dT [])) (fun R r=>by
   simp! only [nR,aJ]
   rw [Ky];exact r)
  (fun i τ Mi=>∃ (kvs:List (List Key × U)) (z3 z4 z5 z6:Option U),τ=[some (nR (fL tls t t.places)),some (eG chs),some (.ref d),z3,z4,z5,z6]/\Mi d=some (.dT kvs)/\Sub M Mi/\n6 tls cs t (t.places.reverse.take i) kvs) ⟨[],none,none,none,none,rfl,aI,(Sub.refl M).mup hd,rfl,by simp⟩ nk ?_ ?_
 ·rintro i x τ Mi e ⟨kvs,z3,z4,z5,z6,rfl,hMd,hsub,hC⟩
  have e':(t.places.map aU).reverse[i]?=some x:=e
  rw [<- List.map_reverse,List.getElem?_map] at e'
  cases hj:t.places.reverse[i]? with
  | none=>rw [hj] at e';cases e'
  | some p =>
   rw [hj] at e'
   cases e'
   have hi:=(List.getElem?_eq_some_iff.mp hj).1
   have hsplit:t.places.reverse=t.places.reverse.take i++p :: t.places.reverse.drop (i + 1):=by
    have:=List.getElem_cons_drop hi
    rw [(List.getElem?_eq_some_iff.mp hj).2] at this
    rw [this,List.take_append_drop]
   have hpl2:t.places=(t.places.reverse.drop (i + 1)).reverse++p :: (t.places.reverse.take i).reverse:=by
    have:=congrArg List.reverse hsplit
    rw [List.reverse_reverse,List.reverse_append,List.reverse_cons,List.append_assoc] at this
    exact this
   have hmem:p∈t.places:=List.mem_reverse.mp (List.mem_of_getElem? hj)
   obtain ⟨t',ht⟩:=qH t p hmem
   have hnew:p ∉ t.places.reverse.take i:=by
    have h2:t.places.reverse.Nodup:=List.pairwise_reverse.mpr (hnd.imp fun {a b} h=>Ne.symm h)
    rw [hsplit] at h2
    exact fun z=>(List.nodup_append.mp h2).2.2 p z p List.mem_cons_self rfl
   have hld:=Sl hT hpl2 ht (by rw [List.reverse_reverse];exact hC)
   have hkl:kvs.length<=40:=by
    have:=congrArg List.length hC.1
    rw [List.length_map,List.length_map,List.length_take,List.length_reverse] at this
    omega
   have hll:(l8 tls t p).length<=100:=by
    unfold l8;rw [ht]
    refine Nat.le_trans (List.length_filter_le _ _) ?_
    have:=vW t' p tls 0;omega
   have lk1:=t5 (M:=Mi) p (EF Mi (fL tls t t.places))
   rw [zB hmem] at lk1
   simp! only [hName,aJ]
   refine aP fun V1 hV1=>?_
   simp! only [bJ,hName,lk1,aJ]
   refine ⟨tls,cs,t,l8 tls t p,.ref d,kvs,IH tls t,t.size,rfl,hMd,by omega,hll,hld,fun kv hf=>?_⟩
   subst hV1
   refine aP fun V1 hV1=>?_
   simp! only [bJ,hName,aJ]
   intro r hr
   have hrd:r≠d:=fun z=>by rw [z,hMd] at hr;cases hr
   have hMr:M r=none:=by
    cases h:M r with
    | none=>rfl
    | some mo=>rw [hsub r mo h] at hr;cases hr
   subst hV1
   refine aP fun V1 hV1=>?_
   refine cP (S:=⟨none,hZ false (chs.map fun e=>[e.1])⟩) (M1:=mup Mi r (.dK [])) (fun R r=>by simp! only [eG,aJ];exact r)
    (fun k τ Mj=>∃ (kv2:List (Key × U)) (y6:Option U),τ=[some (nR (fL tls t t.places)),some (eG chs),some (.ref d),some (aU p),some (eG kv),some (.ref r),y6]/\Mj=mup Mi r (.dK kv2)/\kv2.length<=k/\∀ e∈chs.take k,∀ c,e.1=Sum.inr c->cD kv2 (Sum.inr c)=some (.int (cnt tls t' c))) ⟨[],z6,rfl,rfl,by simp,by simp⟩ nk ?_ ?_
   ·rintro k y τ Mj ek ⟨kv2,y6,rfl,rfl,hk2,hv2⟩
    have ek':(hZ false (chs.map fun e=>[e.1]))[k]?=some y:=ek
    simp only [hZ,List.getElem?_map] at ek'
    cases hk:chs[k]? with
    | none=>rw [hk] at ek';cases ek'
    | some e0 =>
     rw [hk] at ek'
     obtain ⟨c,hec,hc⟩:=hA.1 e0 (List.mem_of_getElem? hk)
     have hy:y=.str c:=by
      simp only [Option.map_some,Option.some.injEq,keyOf,zE,Bool.false_eq_true,if_false,hec] at ek'
      exact ek'.symm
     subst hy
     have hki:=(List.getElem?_eq_some_iff.mp hk).1
     have hch6:=hA.2.2
     obtain ⟨l,hch,hvc⟩:=hA.2.1 c hc
     have lkc:=nA (M:=mup Mi r (.dK kv2)) c (jY _ chs)
     rw [hvc] at lkc
     have hfew:=hch.few
     simp! only [hName,oP,aJ]
     refine eI (S:=⟨none,l.map fun e=>.tup [.str e.1,.lst e.2]⟩) (M1:=mup Mi r (.dK kv2)) (l.map fun e=>.int ((e.2.length:Int) * topC tls t' e.1)) (fun R r'=>by
       simp! only [lkc,aJ]
       unfold eG
       dsimp only
       rw [E3];exact r') (by simp) (small (by show (l.map _).length<=_;rw [List.length_map];omega)) (fun a e=>by cases e) ?_ ?_
     ·intro m x z hx hz M' hS R r'
      have hx':(l.map fun e=>U.tup [.str e.1,.lst e.2])[m]?=some x:=hx
      rw [List.getElem?_map] at hx' hz
      cases hm':l[m]? with
      | none=>rw [hm'] at hx';cases hx'
      | some e1 =>
       rw [hm'] at hx' hz
       cases hx';cases hz
       have hlen:=Rr hT hch e1 (List.mem_of_getElem? hm')
       have hst:=Kc (tls:=tls) ht e1.1
       have lkf:=nA (M:=M') e1.1 (jY M' kv)
       have hR:R (.int ((e1.2.length:Int) * topC tls t' e1.1)) M':=r'
       have hcm:oF (e1.2.length:Int) (topC tls t' e1.1):=.inl (.inl ⟨by omega,by omega⟩)
       refine ⟨rfl,?_⟩
       rcases hf.1 e1.1 with h | ⟨h,h0⟩
       ·rw [h,hst] at lkf
        simp! only [bV,bM,cB,hName,Hg (jY M' kv),lkf,aJ]
        exact ⟨hcm,hR⟩
       ·rw [h] at lkf
        rw [hst] at h0
        rw [h0] at hR hcm
        simp! only [bV,bM,cB,hName,Hg (jY M' kv),lkf,Option.getD_none,aJ]
        exact ⟨hcm,hR⟩
     ·have hsum:(l.map fun e=>(e.2.length:Int) * topC tls t' e.1).sum=cnt tls t' c:=by rw [hch.cnt,EG]
      have hints:intsOf (l.map fun e=>U.int ((e.2.length:Int) * topC tls t' e.1))=some (l.map fun e=>(e.2.length:Int) * topC tls t' e.1):=by
       have:=pV (l.map fun e=>(e.2.length:Int) * topC tls t' e.1)
       rw [List.map_map] at this;exact this
      simp! only [aJ]
      refine ⟨_,hints,?_⟩
      rw [hsum]
      simp! only [kW,aJ]
      refine ⟨big (by omega),_,_,rfl,rfl,?_,fun e he c' hc'=>?_⟩
      ·have:=nD kv2 (Sum.inr c) (.int (cnt tls t' c));omega
      ·rw [nK]
       by_cases h:(Sum.inr c':Key)=Sum.inr c
       ·cases h;exact if_pos rfl
       ·rw [if_neg h]
        rw [List.take_add_one,hk] at he
        rcases List.mem_append.mp he with h2 | h2
        ·exact hv2 e h2 c' hc'
        ·simp at h2;subst h2
         exact absurd (hc'.symm.trans hec) h
   ·rintro τ Mj ⟨kv2,y6,rfl,rfl,hk2,hv2⟩
    have hl3:(Src.mk none (hZ false (chs.map fun e=>[e.1]))).xs.length=chs.length:=by show (hZ false (chs.map fun e=>[e.1])).length=_;rw [xN,List.length_map]
    rw [hl3,List.take_length] at hv2
    subst hV1
    have hMd2:mup Mi r (.dK kv2) d=some (.dT kvs):=by rw [aK (Ne.symm hrd)];exact hMd
    have hno:cD kvs (pk p)=none:=rP fun z=>by
     rw [hC.1] at z
     obtain ⟨q',hq',e⟩:=List.mem_map.mp z
     exact hnew (tW e ▸ hq')
    dsimp only
    simp! only [QK,oP,hMd2,aU,yK,aJ]
    refine ⟨big (by omega),[some (nR (fL tls t t.places)),some (eG chs),some (.ref d),some (aU p),some (eG kv),some (.ref r),y6],mup Mi d (.dT (kvs++[(pk p,eG kv2)])),?_,kvs++[(pk p,eG kv2)],_,_,_,_,rfl,aI,?_,?_⟩
    ·rw [nH hno,q9 hrd]
     exact F2 hr (Ne.symm hrd)
    ·exact hsub.mup hd
    ·rw [List.take_add_one,hj]
     refine FH hC hnew ht fun c hc=>?_
     obtain ⟨l,_,hvc⟩:=hA.2.1 c hc
     obtain ⟨e,he,h1⟩:=Lg hvc
     exact hv2 e he c h1
 ·rintro τ Mi ⟨kvs,z3,z4,z5,z6,rfl,hMd,hsub,hC⟩
  have hlen:(Src.mk none (t.places.map aU).reverse).xs.length=t.places.reverse.length:=by show ((t.places.map aU).reverse).length=_;simp
  rw [hlen,List.take_length] at hC
  subst hV
  simp! only [cT,aJ]
  exact aS (q kvs d Mi hsub hMd hd hC)
theorem AF (C:Callee P w K mg base 2 "count_covers" EN []):Callee P w K mg base 2 "count_covers" FN []:=by
 refine U2.Callee.conv C fun us M Q h=>?_
 obtain ⟨cs,tls,t,chs,rfl,hT,hs,hA,q⟩:=h
 exact ⟨cs,tls,t,chs,rfl,hT,hs,hA,fun kvs d Mi hsub hMd hd hC=>F0 hsub hMd hd (q kvs hC)⟩
theorem R4 {n:Nat} (F:cW K "_law_on" "_law_on" vR f fd) (hm:mg "_law_on"=some (.ref f)) (dB:mg "range"=none) (bK:mg "len"=none) (Ag:Callee P w K mg base (n + 1) "_law_on" (lT n) []):Callee P w K mg base (n + 2) "_law_on" (lT (n + 1)) []:=by
 refine bF F hm BU (kP fun _ _ _ _ _ _ _ _=>rfl) (aD (b6 (b8 c7 (aG (uv 0) aF) cR)
 (aE (aV m8))
 bI)
 (aD (b6 (b8 c7 (aG (uv 0) aF) cR)
 (aE (aV (xB c7 (aG (uv 1) aF) cR)))
 bI)
 (aD (b6 (b8 c7 (aG (uv 0) aF) cR)
 (aE (aV (IT (xB c7 (aG (uv 1) aF) cR) (DU (Nm HG HG (aG (uv 0) aF) (aG (uv 1) aF) (aG (uv 0) aF))))))
 bI)
 (aD (b6 (b8 pY (aG (uv 0) aF) (aG (uv 1) aF))
 (aE (aV m8))
 bI)
 (aD (cS (OT dB (aA aF (aA (dA dW bK (aA (uv 1) aB)) aB))) (aN (k:=1000) 2 BU.nd)
 (aE (b6 (wN (jQ (aR Ag (aA (aG (uv 0) (uv 2)) (aA (aG (uv 1) (uv 2)) aB)))))
 (aE (aV m8))
 bI)))
 (aE (aV m8))))))) ?_
 rintro us M Q ⟨p,t,rfl,hd,q⟩
 refine ⟨rfl,?_⟩
 refine aP fun V hV=>?_
 have g1:(∀ c,p≠.hole c)->V [some p.toU,some t.toU,none] M:=fun p1=>by
  subst hV
  refine aP fun V hV=>?_
  have g2:p≠.any->V [some p.toU,some t.toU,none] M:=fun p2=>by
   subst hV
   refine aP fun V hV=>?_
   have g3:(∀ l h,p≠.fr l h)->V [some p.toU,some t.toU,none] M:=fun p3=>by
    subst hV
    refine aP fun V hV=>?_
    have g4:∀ (s:Str) (ps:List Pt) (ts:List Tr),p.toU=.tup (.str s :: ps.map Pt.toU)->t.toU=.tup (.str s :: ts.map Tr.toU)->ps.length=ts.length->ts.length<=2->(∀ x∈ps,x.dep<=n)->bP p t=(ps.zip ts).all (fun x=>bP x.1 x.2)->V [some p.toU,some t.toU,none] M:=fun s ps ts e1 e2 hl h2 hdp he=>by
     subst hV
     refine aP fun V hV=>?_
     refine cP (S:=⟨none,cH 1 ts.length⟩) (M1:=M) (fun R r=>?_) (fun i τ Mi=>∃ c,τ=[some p.toU,some t.toU,c]/\Mi=M/\((ps.zip ts).take i).all (fun x=>bP x.1 x.2)=true) ⟨none,rfl,rfl,by simp⟩ nk ?_ ?_
     ·simp! only [e2,List.length_map,aJ]
      refine ⟨⟨by decide,by decide,by omega,by omega⟩,?_⟩
      rw [show (((ts.length + 1:Nat):Int) - 1).toNat=ts.length by omega];exact r
     ·rintro i x τ Mi e ⟨c,rfl,rfl,hh⟩
      obtain ⟨rfl,hi⟩:=jF e
      have hip:i < ps.length:=by omega
      have a1:cK (U.str s :: ps.map Pt.toU) (1 + (i:Int))=some ps[i].toU:=by
       rw [show (1 + (i:Int))=((i + 1:Nat):Int) by omega];refine fP ?_;simp [hip]
      have a2:cK (U.str s :: ts.map Tr.toU) (1 + (i:Int))=some ts[i].toU:=by
       rw [show (1 + (i:Int))=((i + 1:Nat):Int) by omega];refine fP ?_;simp [hi]
      have hz:(ps.zip ts)[i]?=some (ps[i],ts[i]):=by rw [List.getElem?_eq_getElem (by simp;omega)];simp
      refine dY fun A B hA hB=>?_
      simp! only [hName,e1,e2,a1,a2,aJ]
      refine ⟨ps[i],ts[i],rfl,hdp _ (List.getElem_mem hip),?_⟩
      cases hl':bP ps[i] ts[i] with
      | true =>
       simp only [jM,Bool.not_true,Bool.false_eq_true,if_false]
       subst hB
       simp only [cN]
       exact ⟨_,rfl,trivial,by rw [List.take_add_one,hz,List.all_append,hh];simp [hl']⟩
      | false =>
       simp only [jM,Bool.not_false,if_true]
       subst hA
       simp only [cT,uC]
       have hf:bP p t=false:=by rw [he,List.all_eq_false];exact ⟨_,List.mem_of_getElem? hz,by simp [hl']⟩
       rw [hf] at q
       exact aS q
     ·rintro τ Mi ⟨c,rfl,rfl,hh⟩
      have hx:(Src.mk none (cH 1 ts.length)).xs.length=ts.length:=by show (cH 1 ts.length).length=_;rw [fJ]
      rw [hx,List.take_of_length_le (by rw [List.length_zip];omega)] at hh
      subst hV
      simp only [cT,uC]
      rw [he,hh] at q
      exact aS q
    refine dY fun A B hA hB=>?_
    have hno:bP p t=false->A M:=fun h=>by subst hA;simp only [cT,uC];rw [h] at q;exact aS q
    have hyes:V [some p.toU,some t.toU,none] M->B M:=fun h=>by subst hB;simp only [cN];exact h
    cases p with
    | hole c=>exact absurd rfl (p1 c)
    | any=>exact absurd rfl p2
    | fr l h=>exact absurd rfl (p3 l h)
    | turn a=>cases t with
     | turn b =>
      simp! only [Pt.toU,Tr.toU,bY,bT,bZ,b5,bX,b7,bU,aJ]
      exact hyes (g4 "turn" [a] [b] rfl rfl rfl (by simp) (by simp only [Pt.dep] at hd;simp;omega) (by simp [bP]))
     | _=>simp! only [Pt.toU,Tr.toU,bY,bT,bZ,b5,bX,b7,bU,aJ];exact hno rfl
    | two o a c=>cases t with
     | two o' b e =>
      by_cases ho:o=o'
      ·subst ho
       simp! only [Pt.toU,Tr.toU,bY,bT,bZ,b5,bX,b7,bU,aJ]
       exact hyes (g4 o.word [a,c] [b,e] rfl rfl rfl (by simp) (by simp only [Pt.dep] at hd;simp;omega) (by simp [bP]))
      ·simp! only [Pt.toU,Tr.toU,bY,bT,bZ,b5,bX,b7,bU,Op.word_inj,ho,aJ]
       exact hno (by simp [bP,ho])
     | _=>simp! only [Pt.toU,Tr.toU,bY,bT,bZ,b5,bX,b7,bU,aJ];exact hno rfl
   refine dY fun A B hA hB=>?_
   have hyes:(∀ l h,p≠.fr l h)->B M:=fun h=>by subst hB;simp only [cN];exact g3 h
   cases p with
   | hole c=>exact absurd rfl (p1 c)
   | any=>exact absurd rfl p2
   | fr l h =>
    simp! only [Pt.toU,aJ]
    subst hA
    cases t with
    | num n =>
     simp! only [cT,Pt.toU,Tr.toU,bP,bY,bT,bZ,b5,bX,b7,bU,aJ] at q ⊢
     by_cases h1:l<=n
     ·rw [if_pos (decide_eq_true h1)]
      rw [decide_eq_true h1,Bool.true_and] at q
      exact aS q
     ·rw [if_neg (by simpa using h1)]
      rw [decide_eq_false h1,Bool.false_and] at q
      exact aS q
    | _=>simp! only [cT,Pt.toU,Tr.toU,bP,bY,bT,bZ,b5,bX,b7,bU,aJ] at q ⊢;exact aS q
   | _=>simp! only [Pt.toU,bY,bT,bZ,b5,bX,b7,bU,aJ];exact hyes (fun l h z=>by cases z)
  refine dY fun A B hA hB=>?_
  have hyes:p≠.any->B M:=fun h=>by subst hB;simp only [cN];exact g2 h
  cases p with
  | hole c=>exact absurd rfl (p1 c)
  | any =>
   simp! only [Pt.toU,aJ]
   subst hA
   cases t <;> (simp! only [cT,Pt.toU,Tr.toU,bP,bY,bT,bZ,b5,bX,b7,bU,aJ] at q ⊢;exact aS q)
  | _=>simp! only [Pt.toU,bY,bT,bZ,b5,bX,b7,bU,aJ];exact hyes (fun z=>by cases z)
 refine dY fun A B hA hB=>?_
 have hyes:(∀ c,p≠.hole c)->B M:=fun h=>by subst hB;simp only [cN];exact g1 h
 cases p with
 | hole c =>
  simp! only [Pt.toU,aJ]
  subst hA
  simp only [cT,uC,bP] at q ⊢
  exact aS q
 | _=>simp! only [Pt.toU,bY,bT,bZ,b5,bX,b7,bU,aJ];exact hyes (fun c z=>by cases z)
theorem Kk (F:cW K "_law_on" "_law_on" vR f fd) (hm:mg "_law_on"=some (.ref f)) (dB:mg "range"=none) (bK:mg "len"=none):∀ n,Callee P w K mg base (n + 1) "_law_on" (lT n) []
 | 0=>by
  have no:∀ us M Q,¬ lT 0 us M Q:=fun us M Q h=>by
   obtain ⟨p,t,_,h,_⟩:=h
   have:=nY p
   omega
  refine ⟨f,fd,["pattern","tree"],[],[],⟨fun vs H Q E h=>?_,fun A outer s H args us vs Q E _ _ _ _ h=>?_⟩,hm,F.kp,F.binds (kP fun _ _ _ _ _ _ _ _=>rfl),.nil,fun H M=>.nil⟩
  ·obtain ⟨us,M,Q',_,_,h,_⟩:=h;exact absurd h (no us M Q')
  ·obtain ⟨us,M,Q',_,_,h,_⟩:=h;exact absurd h (no us M Q')
 | n + 1=>R4 F hm dB bK (Kk F hm dB bK n)
noncomputable def Ct:c8:=fun us M Q=>∃ (cs:List Str) (tls:List Tl) (t:Tr) (c:Str),us=[fD cs tls,t.toU,.str c]/\dN cs tls/\t.size<=40/\c∈cs/\Q (.int (cnt tls t c)) M
theorem Fh (F:cW K "how_many" "how_many" u6 f fd) (hm:mg "how_many"=some (.ref f)) (Ea:Callee P w K mg base 43 "laid_tiles" Gx []) (EU:Callee P w K mg base 3 "all_chains" Gq []) (Bo:Callee P w K mg base 2 "count_covers" FN []):Callee P w K mg base 44 "how_many" Ct []:=by
 refine bF F hm Ff (zG fun _ _ _ _ _ _ _ _ _=>rfl) (aE (aV (iP false mF (iP true (fun _=>True.intro) (aR Bo (aA (aR Ea (aA (uv 0) (aA (uv 1) aB))) (aA (aR EU (aA (uv 0) aB)) aB))) (aY aB)) (uv 2)))) ?_
 rintro us M Q ⟨cs,tls,t,c,rfl,hT,hs,hc,q⟩
 refine ⟨rfl,?_⟩
 simp! only [cT,aJ]
 refine ⟨cs,tls,t,rfl,hT,hs,cs,tls,rfl,hT,fun chs hA=>⟨cs,tls,t,chs,rfl,hT,hs,hA,fun kvs hC=>?_⟩⟩
 obtain ⟨t',kv2,h1,h2,h3⟩:=hC.2 [] (List.mem_reverse.mpr (mC t [] t (o5 t)))
 rw [o5] at h1;cases h1
 have lk1:k8 true M (nR kvs) (.tup [])=some (cD kvs (pk [])):=t5 [] (EF M kvs)
 have lk2:=nA (M:=M) c (jY M kv2)
 rw [h2] at lk1
 rw [h3 c hc] at lk2
 simp! only [lk1,lk2,aJ]
 exact aS q
noncomputable def xI (n:Nat):c8:=fun us M Q=>∃ (cs:List Str) (tls:List Tl) (sn:List Str) (c:Str) (kv:List (Key × U)) (g:Str->Int),us=[.tup (tls.map Tl.toU),.tup ((sn++[c]).map U.str),eG kv]/\dN cs tls/\Seen cs (sn++[c])/\cs.length < n + (sn++[c]).length/\(∀ e∈cs,cD kv (Sum.inr e)=some (.int (g e)))/\Q (.int (W tls g (sn++[c]) c)) M
noncomputable def rN (tls:List Tl) (g:Str->Int) (sn:List Str) (c:Str) (tl:Tl):Int:=match kR tl with
 | some p=>if p.1=c/\p.2 ∉ sn then W tls g (sn++[p.2]) p.2 else 0
 | none=>0
theorem Eo (tls:List Tl) (g:Str->Int) (sn:List Str) (c:Str):∀ l:List Tl,((lC l).map fun p=>if p.1=c/\p.2 ∉ sn then W tls g (sn++[p.2]) p.2 else 0).sum=(l.map (rN tls g sn c)).sum
 | []=>rfl
 | a :: l=>by
  have ih:=Eo tls g sn c l
  unfold lC at ih ⊢
  rw [List.filterMap_cons,List.map_cons,List.sum_cons,<- ih]
  unfold rN
  cases kR a with
  | none=>simp
  | some p=>simp
theorem N5 {n:Nat} (F:cW K "_law_ways" "_law_ways" pW f fd) (hm:mg "_law_ways"=some (.ref f)) (uW:Callee P w K mg base (n + 1) "_law_ways" (xI n) []):Callee P w K mg base (n + 2) "_law_ways" (xI (n + 1)) []:=by
 refine bF F hm oJ (zG fun _ _ _ _ _ _ _ _ _=>rfl) (aD (aO 3 oJ.nd (iP false mF (uv 2) (aG (uv 1) (lY aF))))
 (aD (cS (c9 (uv 0)) (aN (k:=1000) 4 oJ.nd)
 (aE (b6 (m7.pt (kM (b8 c7 (aG (aG (uv 4) aF) aF) cR) (kM (b8 c7 (aG (uv 4) aF) (aG (uv 1) (lY aF))) (mJ (b8 yP (aG (aG (uv 4) aF) aF) (uv 1))))))
 (aE (aO 3 oJ.nd (bL (own:=false) (uv 3) (aR uW (aA (uv 0) (aA (bL (own:=false) (uv 1) (aY (aA (aG (aG (uv 4) aF) aF) aB))) (aA (uv 2) aB)))))))
 bI)))
 (aE (aV (uv 3))))) ?_
 rintro us M Q ⟨cs,tls,sn,c,kv,g,rfl,hT,hS,hn,hv,q⟩
 refine ⟨rfl,?_⟩
 have hc:c∈cs:=hS.sub c (by simp)
 have hat:cK ((sn++[c]).map U.str) (-1)=some (.str c):=by simp only [List.map_append,List.map_cons,List.map_nil,xC]
 have lk:=nA (M:=M) c (jY M kv)
 rw [hv c hc] at lk
 have hsl:=hS.len
 have hcs:=hT.len
 have hstep:=JI hT g c hS
 rw [Eo] at hstep
 refine aP fun V hV=>?_
 simp! only [bJ,hName,hat,lk,aJ]
 subst hV
 refine aP fun V hV=>?_
 refine cP (S:=⟨none,tls.map Tl.toU⟩) (M1:=M) (fun R r=>by simp! only [aJ];exact r)
  (fun i τ Mi=>∃ z4:Option U,τ=[some (.tup (tls.map Tl.toU)),some (.tup ((sn++[c]).map U.str)),some (eG kv),some (.int (g c + ((tls.take i).map (rN tls g (sn++[c]) c)).sum)),z4]/\Mi=M) ⟨none,by simp,rfl⟩ nk ?_ ?_
 ·rintro i x τ Mi e ⟨z4,rfl,rfl⟩
  have e':(tls.map Tl.toU)[i]?=some x:=e
  rw [List.getElem?_map] at e'
  cases hj:tls[i]? with
  | none=>rw [hj] at e';cases e'
  | some tl =>
   rw [hj] at e'
   cases e'
   have htl:=List.mem_of_getElem? hj
   have hsum:((tls.take (i + 1)).map (rN tls g (sn++[c]) c)).sum=((tls.take i).map (rN tls g (sn++[c]) c)).sum + rN tls g (sn++[c]) c tl:=by
    rw [List.take_add_one,hj,List.map_append,List.sum_append];simp
   simp! only [hName,aJ]
   refine dY fun A B hA hB=>?_
   have hno:rN tls g (sn++[c]) c tl=0->B Mi:=fun h0=>by
    subst hB
    simp only [cN]
    exact ⟨_,by rw [hsum,h0,Int.add_zero],trivial⟩
   obtain ⟨nm,cl,pt,co⟩:=tl
   cases pt with
   | hole s =>
    have hh:s∈cs:=hT.hole _ htl s (by simp [bQ,Pt.ends,gE])
    have hw:rN tls g (sn++[c]) c ⟨nm,cl,.hole s,co⟩=if cl=c/\s ∉ sn++[c] then W tls g (sn++[c]++[s]) s else 0:=rfl
    have hyes:(cl=c/\s ∉ sn++[c])->A Mi:=fun h=>by
     rw [if_pos h] at hw
     subst hA
     simp! only [bJ,hName,iZ,Pt.toU,aJ]
     refine ⟨small (by rw [List.length_map];omega),cs,tls,sn++[c],s,kv,g,by simp,hT,hS.add h.2 hh,by rw [List.length_append];simp at hn ⊢;omega,hv,?_⟩
     simp! only [aJ]
     exact ⟨some (Tl.toU ⟨nm,cl,.hole s,co⟩),by rw [hsum,hw,Int.add_assoc]⟩
    simp! only [iZ,Pt.toU,hat,aJ]
    refine gX (fun h1=>⟨rfl,xT _,?_⟩) (fun h1=>hno (by rw [hw,if_neg (fun z=>h1 (decide_eq_true z.1))]))
    rw [nP]
    refine gX (fun h2=>hyes ⟨of_decide_eq_true h1,by simpa using h2⟩) (fun h2=>hno (by
     rw [hw]
     refine if_neg fun z=>h2 ?_
     have:=z.2
     simpa using this))
   | _ =>
    have hw:=hno rfl
    simp! only [iZ,Pt.toU,t7,rV,x6,EJ,aJ]
    exact hw
 ·rintro τ Mi ⟨z4,rfl,rfl⟩
  have hl3:(Src.mk none (tls.map Tl.toU)).xs.length=tls.length:=by show (tls.map Tl.toU).length=_;simp
  rw [hl3,List.take_length,<- hstep]
  subst hV
  simp! only [cT,aJ]
  exact aS q
theorem D4 (F:cW K "_law_ways" "_law_ways" pW f fd) (hm:mg "_law_ways"=some (.ref f)):∀ n,Callee P w K mg base (n + 1) "_law_ways" (xI n) []
 | 0=>by
  have no:∀ us M Q,¬ xI 0 us M Q:=fun us M Q h=>by
   obtain ⟨_,_,_,_,_,_,_,_,hS,h,_⟩:=h
   have:=hS.len
   omega
  refine ⟨f,fd,["tiles","seen","tops"],[],[],⟨fun vs H Q E h=>?_,fun A outer s H args us vs Q E _ _ _ _ h=>?_⟩,hm,F.kp,F.binds (zG fun _ _ _ _ _ _ _ _ _=>rfl),.nil,fun H M=>.nil⟩
  ·obtain ⟨us,M,Q',_,_,h,_⟩:=h;exact absurd h (no us M Q')
  ·obtain ⟨us,M,Q',_,_,h,_⟩:=h;exact absurd h (no us M Q')
 | n + 1=>N5 F hm (D4 F hm n)
theorem xE (g:Tr->Str->Int) (t:Tr) (c:Str) (tl:Tl):∀ l:List Tl,iF g t c (l++[tl])=iF g t c l + (if tl.pass=false/\bP tl.pt t=true/\tl.cls=c then iD g (bS tl.pt t) else 0)
 | []=>by simp [iF]
 | a :: l=>by rw [List.cons_append,iF,iF,xE g t c tl l,Int.add_assoc]
noncomputable def hE (e:List Nat × Pt):Option (List Nat × Str):=(gE e.2).map fun c=>(e.1,c)
theorem qE:∀ (pt:Pt) (pl:List Nat),(bD pt pl).filterMap hE=(cO pt pl).filterMap hF
 | .hole c,pl=>rfl
 | .any,pl=>rfl
 | .fr _ _,pl=>rfl
 | .turn a,pl=>by simp only [bD,cO,List.filterMap_cons,hF];exact qE a _
 | .two _ a b,pl=>by simp only [bD,cO,List.filterMap_cons,hF,List.filterMap_append];rw [qE a,qE b]
noncomputable def cE (tls:List Tl) (t:Tr) (p:List Nat) (e:List Nat × Pt):Option Int:=(hE e).map fun h=>vQ tls t (p++h.1,h.2)
theorem tZ {α β:Type} (f:α->Option β):∀ (l:List α) (k:Nat),∃ m,(l.take k).filterMap f=(l.filterMap f).take m
 | l,0=>⟨0,by simp⟩
 | [],k + 1=>⟨0,by simp⟩
 | a :: l,k + 1=>by
  obtain ⟨m,h⟩:=tZ f l k
  rw [List.take_succ_cons,List.filterMap_cons,List.filterMap_cons]
  cases f a with
  | none=>exact ⟨m,h⟩
  | some b=>exact ⟨m + 1,by simp [h]⟩
theorem Gd (t:Tr) (p:List Nat) {tl:Tl} (hl:bP tl.pt t=true):∀ (l:List Tl) (k j:Nat),l[j]?=some tl->(⟨k + j,tl.cls,tl.cost,(jD tl.pt).map fun e=>(p++e.1,e.2)⟩:Ld)∈dJ t p k l
 | [],k,j,h=>by simp at h
 | a :: l,k,0,h=>by
  simp at h;subst h
  simp only [dJ,hl,if_true];simp
 | a :: l,k,j + 1,h=>by
  simp only [dJ]
  refine List.mem_append_right _ ?_
  have:=Gd t p hl l (k + 1) j (by simpa using h)
  rw [show k + 1 + j=k + (j + 1) by omega] at this
  exact this
theorem pS:∀ (pt:Pt) (pl:List Nat),∀ e∈bD pt pl,e.1.length<=pl.length + pt.dep
 | .hole c,pl,e,h=>by simp [bD] at h;subst h;simp
 | .any,pl,e,h=>by simp [bD] at h;subst h;simp
 | .fr _ _,pl,e,h=>by simp [bD] at h;subst h;simp
 | .turn a,pl,e,h=>by
  have:=pS a (pl++[0]) e h
  simp [Pt.dep] at this ⊢;omega
 | .two _ a b,pl,e,h=>by
  simp only [bD] at h
  rcases List.mem_append.mp h with h | h
  ·have:=pS a (pl++[0]) e h
   simp [Pt.dep] at this ⊢;omega
  ·have:=pS b (pl++[1]) e h
   simp [Pt.dep] at this ⊢;omega
theorem rY:∀ (pt:Pt) (pl:List Nat),(bD pt pl).length<=2 ^ pt.dep
 | .hole c,pl=>by simp [bD];exact Nat.one_le_two_pow
 | .any,pl=>by simp [bD];exact Nat.one_le_two_pow
 | .fr _ _,pl=>by simp [bD];exact Nat.one_le_two_pow
 | .turn a,pl=>by
  have:=rY a (pl++[0])
  simp only [bD,Pt.dep]
  exact Nat.le_trans this (Nat.pow_le_pow_right (by decide) (by omega))
 | .two o a b,pl=>by
  have h1:=rY a (pl++[0])
  have h2:=rY b (pl++[1])
  have h3:2 ^ a.dep<=2 ^ (max a.dep b.dep):=Nat.pow_le_pow_right (by decide) (by omega)
  have h4:2 ^ b.dep<=2 ^ (max a.dep b.dep):=Nat.pow_le_pow_right (by decide) (by omega)
  have h5:(Pt.two o a b).dep=max a.dep b.dep + 1:=by simp only [Pt.dep];try omega
  simp only [bD,List.length_append]
  first | (rw [h5,Nat.pow_succ];omega) | (simp only [Pt.dep];rw [Nat.add_comm 1,Nat.pow_succ];omega) | (simp only [Pt.dep];rw [Nat.pow_succ];omega)
noncomputable def Dj (tls:List Tl) (cs:List Str) (t':Tr) (l:List Tl) (kv:List (Key × U)):Prop:=∀ c∈cs,cD kv (Sum.inr c)=some (.int (iF (cnt tls) t' c l))
noncomputable def GC:c8:=fun us M Q=>∃ (cs:List Str) (tls:List Tl) (t t':Tr) (p:List Nat) (A B:List (List Nat)) (kn:U) (kvs:List (List Key × U)),us=[fD cs tls,aU p,t'.toU,kn]/\kC M kn=some (.dT kvs)/\dN cs tls/\t.size<=40/\t.at p=some t'/\t.places=A++p :: B/\n6 tls cs t B.reverse kvs/\∀ (kv:List (Key × U)) (d:Addr),M d=none->Dj tls cs t' tls kv->Q (.ref d) (mup M d (.dK kv))
noncomputable def Kl:c8:=fun us M Q=>∃ (cs:List Str) (tls:List Tl) (t t':Tr) (p:List Nat) (A B:List (List Nat)) (kn:U) (kvs:List (List Key × U)),us=[fD cs tls,aU p,t'.toU,kn]/\kC M kn=some (.dT kvs)/\dN cs tls/\t.size<=40/\t.at p=some t'/\t.places=A++p :: B/\n6 tls cs t B.reverse kvs/\∀ (kv:List (Key × U)),Dj tls cs t' tls kv->Q (eG kv) M
theorem My (F:cW K "_law_tops" "_law_tops" vK f fd) (hm:mg "_law_tops"=some (.ref f)) (Ag:Callee P w K mg base 7 "_law_on" (lT 6) []) (iE:Callee P w K mg base 7 "_law_ends" (oU 6) []):Callee P w K mg base 8 "_law_tops" GC []:=by
 refine bF F hm iH (Tt fun _ _ _ _ _ _ _ _ _ _=>rfl) (aD (aO 4 iH.nd (lD false))
 (aD (cS (c9 (aG (uv 0) aF)) (aN (k:=1000) 5 iH.nd)
 (aE (kX false mF aF (uv 4) (uv 5))))
 (aD (cS (c9 (aG (uv 0) aF)) (aN (k:=1000) 6 iH.nd)
 (aE (b6 (m7.pt (kM (b8 pY (aG (aG (uv 6) aF) aF) cR) (mJ (jQ (aR Ag (aA (aG (uv 6) aF) (aA (uv 2) aB)))))))
 (aD (aO 7 iH.nd aF)
 (aD (cS (c9 (aR iE (aA (aG (uv 6) aF) (aA (aY aB) aB)))) (eJ (n:=2) (bB (aN (k:=1000) 8 iH.nd) (bB (aN (k:=1000) 9 iH.nd) dH)))
 (aE (b6 (b8 c7 (aG (uv 9) aF) cR)
 (aE (aO 7 iH.nd (gH (own:=false) (uv 7) (iP false mF (iP true (fun _=>True.intro) (uv 3) (bL (own:=false) (uv 1) (uv 8))) (aG (uv 9) aF)))))
 bI)))
 (aE (kX false mF (bL (own:=false) (iP false mF (uv 4) (aG (uv 6) aF)) (uv 7)) (uv 4) (aG (uv 6) aF)))))
 bI)))
 (aE (aV (uv 4)))))) ?_
 rintro us M Q ⟨cs,tls,t,t',p,A0,B0,kn,kvs,rfl,hkn,hT,hs,ht,hsp,hC,q⟩
 refine ⟨rfl,?_⟩
 have hcs:=hT.len
 have htls:=hT.many
 have hld:=J7 hT hsp ht hC
 have hpsh:=jX t p (mC t p t' ht)
 refine aP fun V hV=>?_
 simp! only [bJ,hName,aJ]
 intro d hd
 subst hV
 refine aP fun V hV=>?_
 refine cP (S:=⟨none,cs.map U.str⟩) (M1:=mup M d (.dK [])) (fun R r=>by simp! only [jP,iV,aJ];exact r)
  (fun i τ Mi=>∃ (kv:List (Key × U)) (z:Option U),τ=[some (fD cs tls),some (aU p),some t'.toU,some kn,some (.ref d),z,none,none,none,none]/\Mi=mup M d (.dK kv)/\kv.length<=i/\∀ c∈cs.take i,cD kv (Sum.inr c)=some (.int 0)) ⟨[],none,rfl,rfl,by simp,by simp⟩ nk ?_ ?_
 ·rintro i x τ Mi e ⟨kv,z,rfl,rfl,hl,hv⟩
  have e':(cs.map U.str)[i]?=some x:=e
  rw [List.getElem?_map] at e'
  cases hj:cs[i]? with
  | none=>rw [hj] at e';cases e'
  | some c =>
   rw [hj] at e'
   cases e'
   have hi:=(List.getElem?_eq_some_iff.mp hj).1
   simp! only [hName,oP,kW,aJ]
   refine ⟨big (by omega),_,_,rfl,rfl,?_,fun c' hc'=>?_⟩
   ·have:=nD kv (Sum.inr c) (.int 0);omega
   ·rw [nK]
    by_cases h:(Sum.inr c':Key)=Sum.inr c
    ·rw [if_pos h]
    ·rw [if_neg h]
     rw [List.take_add_one,hj] at hc'
     rcases List.mem_append.mp hc' with h2 | h2
     ·exact hv c' h2
     ·simp at h2;exact absurd (by rw [h2]) h
 ·rintro τ Mi ⟨kv,z,rfl,rfl,hl,hv⟩
  have hl3:(Src.mk none (cs.map U.str)).xs.length=cs.length:=by show (cs.map U.str).length=_;simp
  rw [hl3] at hl hv
  rw [List.take_length] at hv
  show V _ _
  subst hV
  refine aP fun V hV=>?_
  refine cP (S:=⟨none,tls.map Tl.toU⟩) (M1:=mup M d (.dK kv)) (fun R r=>by simp! only [jP,aJ];exact r)
   (fun i τ Mi=>∃ (kv:List (Key × U)) (z5 z6 z7 z8 z9:Option U),τ=[some (fD cs tls),some (aU p),some t'.toU,some kn,some (.ref d),z5,z6,z7,z8,z9]/\Mi=mup M d (.dK kv)/\kv.length<=6 + i/\Dj tls cs t' (tls.take i) kv) ⟨kv,_,_,_,_,_,rfl,rfl,by omega,fun c hc=>by rw [hv c hc];rfl⟩ nk ?_ ?_
  ·rintro i x τ Mi e ⟨kv,z5,z6,z7,z8,z9,rfl,rfl,hl,hv⟩
   have e':(tls.map Tl.toU)[i]?=some x:=e
   rw [List.getElem?_map] at e'
   cases hj:tls[i]? with
   | none=>rw [hj] at e';cases e'
   | some tl =>
    rw [hj] at e'
    cases e'
    have hi:=(List.getElem?_eq_some_iff.mp hj).1
    have htl:=List.mem_of_getElem? hj
    have hdep:=hT.dep tl htl
    have hcl:=hT.cls tl htl
    have htake:tls.take (i + 1)=tls.take i++[tl]:=by rw [List.take_add_one,hj];rfl
    obtain ⟨z0,r0,ehd,_⟩:=wM tl.pt
    simp! only [hName,aJ]
    refine dY fun A B hA hB=>?_
    have hno:¬ (tl.pass=false/\bP tl.pt t'=true)->B (mup M d (.dK kv)):=fun h=>by
     subst hB
     simp only [cN]
     refine ⟨kv,_,_,_,_,_,rfl,rfl,by omega,fun c hc=>?_⟩
     rw [htake,xE,if_neg (fun z=>h ⟨z.1,z.2.1⟩),Int.add_zero]
     exact hv c hc
    have hyes:(tl.pass=false/\bP tl.pt t'=true)->A (mup M d (.dK kv)):=fun h=>by
     subst hA
     have hmem:(⟨i,tl.cls,tl.cost,(jD tl.pt).map fun e=>(p++e.1,e.2)⟩:Ld)∈l8 tls t p:=by
      unfold l8
      rw [ht]
      refine List.mem_filter.mpr ⟨?_,?_⟩
      ·have:=Gd t' p h.2 tls 0 i hj
       rw [Nat.zero_add] at this;exact this
      ·unfold rR;simp only [hj];rw [h.1];rfl
     have hL:=hld _ hmem
     have hall:(bD tl.pt []).filterMap (cE tls t p)=((jD tl.pt).map fun e=>(p++e.1,e.2)).map (vQ tls t):=by
      rw [List.map_map]
      show _=((cO tl.pt []).filterMap hF).map _
      rw [<- qE,List.map_filterMap]
      rfl
     have hem:=rY tl.pt []
     have h32:2 ^ tl.pt.dep<=2 ^ 5:=Nat.pow_le_pow_right (by decide) hdep
     refine aP fun V1 hV1=>?_
     simp! only [bJ,hName,aJ]
     subst hV1
     refine aP fun V1 hV1=>?_
     have hkn2:kC (mup M d (.dK kv)) kn=some (.dT kvs):=GG hd hkn
     refine cP (S:=⟨none,(bD tl.pt []).map cM⟩) (M1:=mup M d (.dK kv)) (fun R r=>by
       simp! only [iZ,aJ]
       exact ⟨tl.pt,[],rfl,by omega,by decide,by decide,r⟩)
      (fun k τ Mi=>∃ (y8 y9:Option U),τ=[some (fD cs tls),some (aU p),some t'.toU,some kn,some (.ref d),z5,some tl.toU,some (.int (fA (((bD tl.pt []).take k).filterMap (cE tls t p)))),y8,y9]/\Mi=mup M d (.dK kv)) ⟨z8,z9,by simp [fA],rfl⟩ nk ?_ ?_
     ·rintro k y τ Mi ek ⟨y8,y9,rfl,rfl⟩
      have ek':((bD tl.pt []).map cM)[k]?=some y:=ek
      rw [List.getElem?_map] at ek'
      cases hk:(bD tl.pt [])[k]? with
      | none=>rw [hk] at ek';cases ek'
      | some e1 =>
       rw [hk] at ek'
       cases ek'
       have hlf:=nG tl.pt [] e1 (List.mem_of_getElem? hk)
       have hshort:=pS tl.pt [] e1 (List.mem_of_getElem? hk)
       have hnext:((bD tl.pt []).take (k + 1)).filterMap (cE tls t p)=((bD tl.pt []).take k).filterMap (cE tls t p)++(cE tls t p e1).toList:=by
        rw [List.take_add_one,hk,List.filterMap_append]
        cases hce:cE tls t p e1 <;> simp [hce]
       obtain ⟨m,hm'⟩:=tZ (cE tls t p) (bD tl.pt []) k
       rw [hall] at hm'
       have hpre:=hL.pre m
       refine ⟨rfl,?_⟩
       obtain ⟨e1,ep⟩:=e1
       simp! only [cM,bV,bM,cB,hName,aJ]
       refine dY fun A B hA hB=>?_
       cases ep with
       | hole c =>
        have hin:(e1,c)∈jD tl.pt:=by
         show _∈(cO tl.pt []).filterMap hF
         rw [<- qE]
         exact List.mem_filterMap.mpr ⟨_,List.mem_of_getElem? hk,rfl⟩
        obtain ⟨j,hj1,hj2⟩:=List.getElem_of_mem (List.mem_map.mpr ⟨(e1,c),hin,rfl⟩:(p++e1,c)∈(jD tl.pt).map fun e=>(p++e.1,e.2))
        obtain ⟨kv2,v,g1,g2,g3⟩:=hL.at' j (p++e1,c) (by rw [List.getElem?_eq_getElem hj1,hj2])
        have hv':v=vQ tls t (p++e1,c):=by
         rw [List.getElem?_map] at g3
         have:((jD tl.pt).map fun e=>(p++e.1,e.2))[j]?=some (p++e1,c):=by rw [List.getElem?_eq_getElem hj1,hj2]
         rw [this] at g3
         exact (Option.some.inj g3).symm
        obtain ⟨hv0,hv1⟩:=hL.lo v (List.mem_of_getElem? g3)
        have lk1:=t5 (p++e1) hkn2
        have lk2:=nA (M:=mup M d (.dK kv)) c (jY _ kv2)
        rw [g1] at lk1
        rw [g2] at lk2
        have hadd:U.tup ((p.map fun (n:Nat)=>U.int (n:Int))++(e1.map fun (n:Nat)=>U.int (n:Int)))=aU (p++e1):=by simp [aU]
        have hcE:cE tls t p (e1,.hole c)=some v:=by rw [hv'];rfl
        rw [hcE] at hnext
        have hnp:fA (((bD tl.pt []).take (k + 1)).filterMap (cE tls t p))=fA (((bD tl.pt []).take k).filterMap (cE tls t p)) * v:=by rw [hnext];exact AV _ v
        simp only [aU] at lk1
        simp! only [Pt.toU,aJ]
        subst hA
        simp! only [bJ,hName,aU,<- List.map_append,lk1,lk2,Pt.toU,aJ]
        rw [hnp]
        exact ⟨small (by simp at hshort ⊢;omega),KY (n:=t.size) (by omega) (by rw [hm'];exact hpre.1) (by rw [hm'];exact hpre.2) hv0 hv1,_,_,rfl⟩
       | any =>
        have hcE:cE tls t p (e1,.any)=none:=rfl
        rw [hcE] at hnext
        simp! only [Pt.toU,t7,aJ]
        subst hB
        simp only [cN]
        rw [show (none:Option Int).toList=[] from rfl,List.append_nil] at hnext
        rw [hnext]
        exact ⟨_,_,rfl,trivial⟩
       | fr a b =>
        have hcE:cE tls t p (e1,.fr a b)=none:=rfl
        rw [hcE] at hnext
        simp! only [Pt.toU,rV,aJ]
        subst hB
        simp only [cN]
        rw [show (none:Option Int).toList=[] from rfl,List.append_nil] at hnext
        rw [hnext]
        exact ⟨_,_,rfl,trivial⟩
       | turn a=>cases hlf
       | two o a b=>cases hlf
     ·rintro τ Mi ⟨y8,y9,rfl,rfl⟩
      have hl3:(Src.mk none ((bD tl.pt []).map cM)).xs.length=(bD tl.pt []).length:=by show ((bD tl.pt []).map cM).length=_;simp
      have hfull:fA ((bD tl.pt []).filterMap (cE tls t p))=iD (cnt tls) (bS tl.pt t'):=by rw [hall,xF ht h.2,oC]
      rw [hl3,List.take_length,hfull]
      show V1 _ _
      subst hV1
      have lk3:=nA (M:=mup M d (.dK kv)) (x:=.ref d) tl.cls aI
      rw [hv tl.cls hcl] at lk3
      simp! only [oP,iZ,lk3,kW,aJ]
      refine ⟨big (by omega),_,_,_,_,_,_,rfl,rfl,?_,fun c hc=>?_⟩
      ·have:=nD kv (Sum.inr tl.cls) (.int (iF (cnt tls) t' tl.cls (tls.take i) + iD (cnt tls) (bS tl.pt t')));omega
      ·rw [nK,htake,xE]
       by_cases hcc:(Sum.inr c:Key)=Sum.inr tl.cls
       ·cases hcc
        rw [if_pos rfl,if_pos ⟨h.1,h.2,rfl⟩]
       ·rw [if_neg hcc,if_neg (fun z=>hcc (by rw [z.2.2])),Int.add_zero]
        exact hv c hc
    have hpp:(tl.pass=false) ↔ z0≠Str.ofString "at":=by
     obtain ⟨nm,cl,pt,co⟩:=tl
     cases pt with
     | hole s=>simp only [Pt.toU,U.tup.injEq,List.cons.injEq,U.str.injEq] at ehd;simp [Tl.pass,<- ehd.1]
     | any=>simp only [Pt.toU,U.tup.injEq,List.cons.injEq,U.str.injEq] at ehd;simp [Tl.pass,<- ehd.1,t7]
     | fr a b=>simp only [Pt.toU,U.tup.injEq,List.cons.injEq,U.str.injEq] at ehd;simp [Tl.pass,<- ehd.1,rV]
     | turn a=>simp only [Pt.toU,U.tup.injEq,List.cons.injEq,U.str.injEq] at ehd;simp [Tl.pass,<- ehd.1,x6]
     | two o a b=>simp only [Pt.toU,U.tup.injEq,List.cons.injEq,U.str.injEq] at ehd;simp [Tl.pass,<- ehd.1,EJ]
    simp! only [iZ,ehd,aJ]
    refine gX (fun h1=>⟨tl.pt,t',by rw [ehd],by omega,?_⟩) (fun h1=>hno fun z=>h1 (by simp [hpp.mp z.1]))
    simp only [jM]
    have h1':tl.pass=false:=hpp.mpr (by simpa using h1)
    exact gX (fun h2=>hyes ⟨h1',h2⟩) (fun h2=>hno fun z=>h2 z.2)
  ·rintro τ Mi ⟨kv,z5,z6,z7,z8,z9,rfl,rfl,hl,hv⟩
   have hl3:(Src.mk none (tls.map Tl.toU)).xs.length=tls.length:=by show (tls.map Tl.toU).length=_;simp
   rw [hl3,List.take_length] at hv
   subst hV
   simp! only [cT,aJ]
   exact aS (q kv d hd hv)
theorem FG (C:Callee P w K mg base 8 "_law_tops" GC []):Callee P w K mg base 8 "_law_tops" Kl []:=by
 refine U2.Callee.conv C fun us M Q h=>?_
 obtain ⟨cs,tls,t,t',p,A0,B0,kn,kvs,rfl,hkn,hT,hs,ht,hsp,hC,q⟩:=h
 exact ⟨cs,tls,t,t',p,A0,B0,kn,kvs,rfl,hkn,hT,hs,ht,hsp,hC,fun kv d hd hv=>DL ((Sub.refl M).mup hd) aI hd (q kv hv)⟩
noncomputable def eD (M:aH) (t r:Addr) (T R:List U):aH:=mup (mup M t (.lst T)) r (.lst R)
theorem Aw {M:aH} {t r:Addr} {T R:List U} (h:t≠r):eD M t r T R t=some (.lst T):=by unfold eD;rw [aK h,aI]
theorem C6 {M:aH} {t r:Addr} {T R:List U}:eD M t r T R r=some (.lst R):=aI
theorem Eg {M:aH} {t r:Addr} {T R T':List U} (h:t≠r):mup (eD M t r T R) t (.lst T')=eD M t r T' R:=by
 unfold eD
 rw [q9 (Ne.symm h),gG]
theorem LP {M:aH} {t r:Addr} {T R R':List U}:mup (eD M t r T R) r (.lst R')=eD M t r T R':=by unfold eD;rw [gG]
noncomputable def eB (x:List Nat × Tr):U:=.tup [aU x.1,x.2.toU]
noncomputable def jB:Tr->List Nat->List (List Nat × Tr)
 | .turn a,pl=>(pl,.turn a) :: jB a (pl++[0])
 | .two o a b,pl=>(pl,.two o a b) :: (jB a (pl++[0])++jB b (pl++[1]))
 | t,pl=>[(pl,t)]
theorem t4:∀ (t:Tr) (pl:List Nat),(jB t pl).map (·.1)=t.places.map (pl++·)
 | .turn a,pl=>by simp only [jB,Tr.places,List.map_cons,t4 a,List.append_nil,List.map_map];congr 1;exact List.map_congr_left fun x _=>by simp
 | .two o a b,pl=>by
  simp only [jB,Tr.places,List.map_cons,List.map_append,t4 a,t4 b,List.append_nil,List.map_map]
  congr 2
  ·exact List.map_congr_left fun x _=>by simp
  ·exact List.map_congr_left fun x _=>by simp
 | .num _,pl=>by simp [jB,Tr.places]
 | .name _,pl=>by simp [jB,Tr.places]
theorem Ba:∀ (t:Tr) (pl:List Nat),∀ x∈jB t pl,∃ s,x.1=pl++s/\t.at s=some x.2
 | .turn a,pl,x,h=>by
  simp only [jB] at h
  rcases List.mem_cons.mp h with rfl | h
  ·exact ⟨[],by simp,rfl⟩
  ·obtain ⟨s,e1,e2⟩:=Ba a _ x h
   exact ⟨0 :: s,by rw [e1];simp,e2⟩
 | .two o a b,pl,x,h=>by
  simp only [jB] at h
  rcases List.mem_cons.mp h with rfl | h
  ·exact ⟨[],by simp,rfl⟩
  ·rcases List.mem_append.mp h with h | h
   ·obtain ⟨s,e1,e2⟩:=Ba a _ x h
    exact ⟨0 :: s,by rw [e1];simp,e2⟩
   ·obtain ⟨s,e1,e2⟩:=Ba b _ x h
    exact ⟨1 :: s,by rw [e1];simp,e2⟩
 | .num _,pl,x,h=>by simp [jB] at h;subst h;exact ⟨[],by simp,rfl⟩
 | .name _,pl,x,h=>by simp [jB] at h;subst h;exact ⟨[],by simp,rfl⟩
theorem yI (t:Tr) (pl:List Nat):(jB t pl).length=t.size:=by
 have:=congrArg List.length (t4 t pl)
 rw [List.length_map,List.length_map,iN] at this;exact this
noncomputable def GJ (x:List Nat × Tr):PyData:=.tuple [.tuple (x.1.map fun (n:Nat)=>.int (n:Int)),mH x.2]
theorem Jz (l:List Nat):cV (l.map fun (n:Nat)=>U.int (n:Int))=some (l.map fun (n:Nat)=>PyData.int (n:Int)):=by
 induction l with
 | nil=>simp [cV]
 | cons a r ih=>simp [cV,toD,ih]
theorem lay_ints (l:List Nat):PyData.canLayAll0 (l.map fun (n:Nat)=>PyData.int (n:Int))=true:=by
 induction l with
 | nil=>simp [PyData.canLayAll0]
 | cons a r ih=>simp only [List.map_cons,PyData.canLayAll0,PyData.canLay0,ih];rfl
theorem KI (l:List (List Nat × Tr)):cV (l.map eB)=some (l.map GJ):=by
 induction l with
 | nil=>simp [cV]
 | cons p l ih=>simp [cV,toD,eB,GJ,aU,Jz,AM,ih]
theorem LH (l:List (List Nat × Tr)) (h:∀ p∈l,p.2.ok):PyData.canLayAll0 (l.map GJ)=true:=by
 induction l with
 | nil=>simp [PyData.canLayAll0]
 | cons p l ih =>
  simp only [List.map_cons,PyData.canLayAll0,PyData.canLay0,GJ,lay_ints,EK p.2 (h p List.mem_cons_self),ih fun x hx=>h x (List.mem_cons_of_mem _ hx)];rfl
noncomputable def jO (st:List (List Nat × Tr)):List (List Nat × Tr):=st.reverse.flatMap fun x=>jB x.2 x.1
theorem IC (st:List (List Nat × Tr)) (x:List Nat × Tr):jO (st++[x])=jB x.2 x.1++jO st:=by simp [jO]
theorem Cc (st:List (List Nat × Tr)):st.length<=(jO st).length:=by
 unfold jO
 have:∀ l:List (List Nat × Tr),l.length<=(l.flatMap fun x=>jB x.2 x.1).length:=by
  intro l
  induction l with
  | nil=>simp
  | cons a r ih =>
   rw [List.flatMap_cons,List.length_append,List.length_cons,yI]
   have:=mL a.2
   omega
 have h:=this st.reverse
 rw [List.length_reverse] at h
 exact h
noncomputable def jA (x:List Nat × Tr):List (List Nat × Tr):=(x.2.parts.zipIdx.map fun p=>(x.1++[p.2],p.1)).reverse
theorem KJ (a b:List (List Nat × Tr)):jO (a++b)=jO b++jO a:=by simp [jO]
theorem J5 (x:List Nat × Tr):jB x.2 x.1=[x]++jO (jA x):=by
 obtain ⟨p,t⟩:=x
 cases t <;> simp [jB,jA,jO,Tr.parts]
theorem OW {x:List Nat × Tr} (h:x.2.ok) (hs:x.1.length + x.2.size<=41):∀ y∈jA x,y.2.ok/\y.1.length + y.2.size<=41:=fun y hy=>by
 obtain ⟨p,t⟩:=x
 cases t with
 | num n=>simp [jA,Tr.parts] at hy
 | name n=>simp [jA,Tr.parts] at hy
 | turn a =>
  simp [jA,Tr.parts] at hy
  subst hy
  simp only [Tr.size] at hs
  exact ⟨h,by simp;omega⟩
 | two o a b =>
  simp [jA,Tr.parts] at hy
  simp only [Tr.size] at hs
  rcases hy with rfl | rfl
  ·exact ⟨h.2,by simp;omega⟩
  ·exact ⟨h.1,by simp;omega⟩
theorem Kb (t:Tr):t.parts.length<=2:=by cases t <;> simp [Tr.parts]
theorem MT (x:List Nat × Tr) {i:Nat} (h:i < x.2.parts.length):∃ a,x.2.parts[x.2.parts.length - 1 - i]?=some a/\(jA x)[i]?=some (x.1++[x.2.parts.length - 1 - i],a):=by
 have hj:x.2.parts.length - 1 - i < x.2.parts.length:=by omega
 refine ⟨x.2.parts[x.2.parts.length - 1 - i],List.getElem?_eq_getElem hj,?_⟩
 unfold jA
 rw [List.getElem?_reverse (by simpa using h),List.getElem?_map,List.getElem?_zipIdx]
 simp only [List.length_map,List.length_zipIdx,List.getElem?_eq_getElem hj,Option.map_some,Nat.zero_add]
noncomputable def Ca:c8:=fun us M Q=>∃ t:Tr,us=[t.toU]/\t.ok/\t.size<=40/\Q (.lst ((jB t []).map eB)) M
noncomputable def G7 (M:aH) (a:Addr):Nat:=match M a with
 | some (.lst us)=>us.length
 | _=>0
theorem CG (F:cW K "_law_places" "_law_places" qO f fd) (hm:mg "_law_places"=some (.ref f)) (bK:mg "len"=none) (iG:mg "reversed"=none) (dB:mg "range"=none):Callee P w K mg base 1 "_law_places" Ca []:=by
 refine bF F hm i9 (nB fun _ _ _ _ _ _ _=>rfl) (aD (aO 1 i9.nd (cX (own:=true) (aA (aY (aA (aY aB) (aA (uv 0) aB))) aB)))
 (aD (aO 2 i9.nd (cX (own:=true) aB))
 (aD (u9 (b8 pY (uv 1) (cX (own:=false) aB))
 (aD (DK (xY (uv 1)) (eJ (n:=2) (bB (aN (k:=1000) 3 i9.nd) (bB (aN (k:=1000) 4 i9.nd) dH))))
 (aD (e6 (eM (uv 2) (aA (aY (aA (uv 3) (aA (uv 4) aB))) aB)))
 (aE (b6 (b8 yP (aG (uv 4) aF) (aY (aA cR (aA cR aB))))
 (aE (cS (HR iG dB (aA aF (aA (dA dW bK (aA (uv 4) aB)) aB))) (aN (k:=1000) 5 i9.nd)
 (aE (e6 (eM (uv 1) (aA (aY (aA (bL (own:=false) (uv 3) (aY (aA (oT (uv 5) aF) aB))) (aA (aG (uv 4) (uv 5)) aB))) aB))))))
 bI)))))
 (aE (aV (uv 2)))))) ?_
 rintro us M Q ⟨t,rfl,hok,hs,q⟩
 refine ⟨rfl,?_⟩
 refine aP fun V hV=>?_
 simp! only [bJ,hName,aJ]
 intro l hl
 subst hV
 refine aP fun V hV=>?_
 simp! only [bJ,hName,aJ]
 intro r hr
 have hlr:l≠r:=fun z=>by subst z;rw [aI] at hr;cases hr
 rw [aK (Ne.symm hlr)] at hr
 subst hV
 refine aP fun V hV=>?_
 refine uE (fun τ Mi=>∃ (st fo:List (List Nat × Tr)) (z3 z4 z5:Option U),τ=[some t.toU,some (.ref l),some (.ref r),z3,z4,z5]/\Mi=eD M l r (st.map eB) (fo.map eB)/\fo++jO st=jB t []/\∀ x∈st,x.2.ok/\x.1.length + x.2.size<=41) (fun τ Mi=>41 - G7 Mi r) ⟨[([],t)],[],none,none,none,rfl,rfl,by simp [jO],fun x hx=>by cases List.mem_singleton.mp hx;exact ⟨hok,by simp;omega⟩⟩ ?_
 rintro τ Mi ⟨st,fo,z3,z4,z5,rfl,rfl,hfl,hst⟩
 have htot:fo.length + (jO st).length=t.size:=by rw [<- List.length_append,hfl,yI]
 have hsl:=Cc st
 simp! only [aJ]
 refine FO (Aw hlr) (KI st) (LH st fun p hp=>(hst p hp).1) ?_
 rcases List.eq_nil_or_concat st with rfl | ⟨st,x,rfl⟩
 ·simp only [List.map_nil,List.isEmpty_nil,Bool.not_true,Bool.false_eq_true,if_false]
  have e0:fo=jB t []:=by simpa [jO] using hfl
  show V _ _
  subst hV
  simp! only [cT,aJ]
  refine ⟨_,M,((Sub.refl M).mup hl).mup hr,.inr ⟨r,_,rfl,C6,hr,rfl⟩,?_⟩
  rw [e0];exact q
 ·rw [List.concat_eq_append] at *
  obtain ⟨hxo,hxs⟩:=hst x (by simp)
  rw [IC] at hfl htot
  rw [List.length_append,yI] at htot
  have hxp:=mL x.2
  have hne:((st++[x]).map eB).isEmpty=false:=by simp
  have hm1:(st++[x]).map eB=st.map eB++[eB x]:=by simp
  simp only [hne,Bool.not_false,if_true]
  refine aP fun V1 hV1=>?_
  simp! only [bJ,Aw hlr,hm1,Iz,GZ,eB,bV,bM,cB,hName,Eg hlr,aJ]
  refine ⟨⟨_,gF (Aw hlr)⟩,?_⟩
  subst hV1
  refine aP fun V1 hV1=>?_
  have hfl1:=Cc st
  simp! only [i5,C6,LP,aJ]
  refine ⟨⟨_,gF C6⟩,big (by rw [List.length_map];omega),?_⟩
  have hfo:fo.map eB++[U.tup [aU x.1,x.2.toU]]=(fo++[x]).map eB:=by simp [eB]
  rw [hfo]
  subst hV1
  refine dY fun A B hA hB=>?_
  have hnx:∀ z5:Option U,(∃ (st' fo':List (List Nat × Tr)) (y3 y4 y5:Option U),[some t.toU,some (U.ref l),some (U.ref r),some (aU x.1),some x.2.toU,z5]=[some t.toU,some (.ref l),some (.ref r),y3,y4,y5]/\eD M l r ((st++jA x).map eB) ((fo++[x]).map eB)=eD M l r (st'.map eB) (fo'.map eB)/\fo'++jO st'=jB t []/\∀ x∈st',x.2.ok/\x.1.length + x.2.size<=41)/\41 - G7 (eD M l r ((st++jA x).map eB) ((fo++[x]).map eB)) r < 41 - G7 (eD M l r ((st++[x]).map eB) (fo.map eB)) r:=by
   intro z5
   refine ⟨⟨st++jA x,fo++[x],_,_,_,rfl,rfl,?_,fun y hy=>?_⟩,?_⟩
   ·rw [KJ,<- hfl,J5 x,List.append_assoc];rfl
   ·rcases List.mem_append.mp hy with h | h
    ·exact hst y (by simp [h])
    ·exact OW hxo hxs y h
   ·simp only [G7,C6,List.length_map,List.length_append,List.length_cons,List.length_nil]
    omega
  have hleaf:x.2.parts=[]->B (eD M l r (st.map eB) ((fo++[x]).map eB)):=fun h=>by
   subst hB
   simp only [cN]
   have:=hnx z5
   rw [show jA x=[] by simp [jA,h],List.append_nil] at this
   exact this
  have loop:∀ (wd:Str),x.2.toU=.tup (.str wd :: x.2.parts.map Tr.toU)->A (eD M l r (st.map eB) ((fo++[x]).map eB)):=fun wd hu=>by
   subst hA
   have hpl2:=Kb x.2
   have hb:((x.1.map fun (n:Nat)=>U.int (n:Int))).length + 1<=sizeLine:=small (by rw [List.length_map];omega)
   refine cP (S:=⟨none,(cH 1 x.2.parts.length).reverse⟩) (M1:=eD M l r (st.map eB) ((fo++[x]).map eB)) (fun R r'=>by
     simp! only [hu,List.length_map,aJ]
     have e1:(((x.2.parts.length + 1:Nat):Int) - 1).toNat=x.2.parts.length:=by omega
     rw [e1]
     exact ⟨⟨by decide,by decide,by omega,by omega⟩,r'⟩)
    (fun i τ Mi=>∃ z5:Option U,τ=[some t.toU,some (.ref l),some (.ref r),some (aU x.1),some x.2.toU,z5]/\Mi=eD M l r ((st++(jA x).take i).map eB) ((fo++[x]).map eB)) ⟨z5,rfl,by simp⟩ nk ?_ ?_
   ·rintro i y τ Mi e ⟨z5,rfl,rfl⟩
    obtain ⟨rfl,hi⟩:=x5 e
    obtain ⟨a,ha,hk⟩:=MT x hi
    have hat:cK (U.str wd :: x.2.parts.map Tr.toU) (1 + (x.2.parts.length:Int) - 1 - (i:Int))=some a.toU:=by
     have e1:(1 + (x.2.parts.length:Int) - 1 - (i:Int))=((x.2.parts.length - 1 - i + 1:Nat):Int):=by omega
     rw [e1]
     refine fP ?_
     rw [List.getElem?_cons_succ,List.getElem?_map,ha];rfl
    have hpl3:U.tup ((x.1.map fun (n:Nat)=>U.int (n:Int))++[U.int (1 + (x.2.parts.length:Int) - 1 - (i:Int) - 1)])=aU (x.1++[x.2.parts.length - 1 - i]):=by
     simp only [aU,List.map_append,List.map_cons,List.map_nil]
     congr 4;omega
    simp! only [i5,hName,hu,aU,hat,Aw hlr,Eg hlr,aJ]
    refine ⟨⟨_,gF (Aw hlr)⟩,hb,big (by simp only [List.length_map,List.length_append,List.length_take];omega),_,rfl,?_⟩
    rw [hpl3,List.take_add_one,hk]
    simp [eB]
   ·rintro τ Mi ⟨z5,rfl,rfl⟩
    have hl3:(Src.mk none (cH 1 x.2.parts.length).reverse).xs.length=(jA x).length:=by show (cH 1 x.2.parts.length).reverse.length=_;rw [List.length_reverse,fJ];simp [jA]
    rw [hl3,List.take_length]
    exact hnx z5
  obtain ⟨px,tx⟩:=x
  cases tx with
  | num n =>
   simp! only [Tr.toU,aJ]
   refine ⟨rfl,rfl,?_⟩
   rw [show [U.str (Str.ofString "num"),U.str (Str.ofString "name")]=[Str.ofString "num",Str.ofString "name"].map U.str from rfl,nP]
   simp only [List.mem_cons,List.not_mem_nil,or_false,decide_true,decide_false,Bool.not_true,Bool.not_false,Bool.false_eq_true,if_false,if_true,or_true,true_or]
   exact hleaf rfl
  | name n =>
   simp! only [Tr.toU,aJ]
   refine ⟨rfl,rfl,?_⟩
   rw [show [U.str (Str.ofString "num"),U.str (Str.ofString "name")]=[Str.ofString "num",Str.ofString "name"].map U.str from rfl,nP]
   simp only [List.mem_cons,List.not_mem_nil,or_false,decide_true,decide_false,Bool.not_true,Bool.not_false,Bool.false_eq_true,if_false,if_true,or_true,true_or]
   exact hleaf rfl
  | turn a =>
   simp! only [Tr.toU,aJ]
   refine ⟨rfl,rfl,?_⟩
   rw [show [U.str (Str.ofString "num"),U.str (Str.ofString "name")]=[Str.ofString "num",Str.ofString "name"].map U.str from rfl,nP]
   simp only [List.mem_cons,List.not_mem_nil,or_false,Bc,yW,decide_true,decide_false,Bool.not_true,Bool.not_false,Bool.false_eq_true,if_false,if_true,or_true,true_or]
   exact loop _ rfl
  | two o a b =>
   simp! only [Tr.toU,aJ]
   refine ⟨rfl,rfl,?_⟩
   rw [show [U.str (Str.ofString "num"),U.str (Str.ofString "name")]=[Str.ofString "num",Str.ofString "name"].map U.str from rfl,nP]
   simp only [List.mem_cons,List.not_mem_nil,or_false,Gm,Et,decide_true,decide_false,Bool.not_true,Bool.not_false,Bool.false_eq_true,if_false,if_true,or_true,true_or]
   exact loop _ rfl
noncomputable def Js:c8:=fun us M Q=>∃ (cs:List Str) (tls:List Tl) (t:Tr),us=[fD cs tls,t.toU]/\dN cs tls/\t.ok/\t.size<=40/\∀ kv2:List (Key × U),(∀ c∈cs,cD kv2 (Sum.inr c)=some (.int (cnt tls t c)))->Q (eG kv2) M
theorem CD (F:cW K "_law_counts" "_law_counts" qM f fd) (hm:mg "_law_counts"=some (.ref f)) (iG:mg "reversed"=none) (Dm:Callee P w K mg base 1 "_law_places" Ca []) (G1:Callee P w K mg base 8 "_law_tops" Kl []) (uW:Callee P w K mg base 7 "_law_ways" (xI 6) []):Callee P w K mg base 9 "_law_counts" Js []:=by
 refine bF F hm i8 (kP fun _ _ _ _ _ _ _ _=>rfl) (aD (aO 2 i8.nd (lD true))
 (aD (cS (yY iG (aA (aR Dm (aA (uv 1) aB)) aB)) (eJ (n:=2) (bB (aN (k:=1000) 3 i8.nd) (bB (aN (k:=1000) 4 i8.nd) dH)))
 (aD (aO 5 i8.nd (aR G1 (aA (uv 0) (aA (uv 3) (aA (uv 4) (aA (uv 2) aB))))))
 (aD (kX true (fun _=>True.intro) (lD false) (uv 2) (uv 3))
 (aE (NL (cS (c9 (aG (uv 0) aF)) (aN (k:=1000) 6 i8.nd)
 (aE (kX false mF (aR uW (aA (aG (uv 0) aF) (aA (aY (aA (uv 6) aB)) (aA (uv 5) aB)))) (iP true (fun _=>True.intro) (uv 2) (uv 3)) (uv 6)))))))))
 (aE (aV (iP true (fun _=>True.intro) (uv 2) (aY aB)))))) ?_
 rintro us M Q ⟨cs,tls,t,rfl,hT,hok,hs,q⟩
 refine ⟨rfl,?_⟩
 have hpl:=iN t
 have hnd:=xG t
 have hcs:=hT.len
 have hfst:(jB t []).map (·.1)=t.places:=by rw [t4];simp
 refine aP fun V hV=>?_
 simp! only [bJ,hName,aJ]
 intro d hd
 subst hV
 refine aP fun V hV=>?_
 refine cP (S:=⟨none,((jB t []).map eB).reverse⟩) (M1:=mup M d (.dT [])) (fun R r=>by
   simp! only [aJ]
   exact ⟨t,rfl,hok,hs,r⟩)
  (fun i τ Mi=>∃ (kvs:List (List Key × U)) (z3 z4 z5 z6:Option U),τ=[some (fD cs tls),some t.toU,some (.ref d),z3,z4,z5,z6]/\Mi d=some (.dT kvs)/\Sub M Mi/\n6 tls cs t (t.places.reverse.take i) kvs) ⟨[],none,none,none,none,rfl,aI,(Sub.refl M).mup hd,rfl,by simp⟩ nk ?_ ?_
 ·rintro i x τ Mi e ⟨kvs,z3,z4,z5,z6,rfl,hMd,hsub,hC⟩
  have e':((jB t []).map eB).reverse[i]?=some x:=e
  rw [<- List.map_reverse,List.getElem?_map] at e'
  cases hj0:(jB t []).reverse[i]? with
  | none=>rw [hj0] at e';cases e'
  | some pt0 =>
   rw [hj0] at e'
   cases e'
   obtain ⟨s0,hs1,ht⟩:=Ba t [] pt0 (List.mem_reverse.mp (List.mem_of_getElem? hj0))
   rw [List.nil_append] at hs1
   subst hs1
   obtain ⟨p,t'⟩:=pt0
   simp only at ht
   have hj:t.places.reverse[i]?=some p:=by
    rw [<- hfst,<- List.map_reverse,List.getElem?_map,hj0];rfl
   have hi:=(List.getElem?_eq_some_iff.mp hj).1
   have hsplit:t.places.reverse=t.places.reverse.take i++p :: t.places.reverse.drop (i + 1):=by
    have:=List.getElem_cons_drop hi
    rw [(List.getElem?_eq_some_iff.mp hj).2] at this
    rw [this,List.take_append_drop]
   have hpl2:t.places=(t.places.reverse.drop (i + 1)).reverse++p :: (t.places.reverse.take i).reverse:=by
    have:=congrArg List.reverse hsplit
    rw [List.reverse_reverse,List.reverse_append,List.reverse_cons,List.append_assoc] at this
    exact this
   have hnew:p ∉ t.places.reverse.take i:=by
    have h2:t.places.reverse.Nodup:=List.pairwise_reverse.mpr (hnd.imp fun {a b} h=>Ne.symm h)
    rw [hsplit] at h2
    exact fun z=>(List.nodup_append.mp h2).2.2 p z p List.mem_cons_self rfl
   have hkl:kvs.length<=40:=by
    have:=congrArg List.length hC.1
    rw [List.length_map,List.length_map,List.length_take,List.length_reverse] at this
    omega
   have hno:cD kvs (pk p)=none:=rP fun z=>by
    rw [hC.1] at z
    obtain ⟨q',hq',e⟩:=List.mem_map.mp z
    exact hnew (tW e ▸ hq')
   refine ⟨rfl,?_⟩
   simp! only [eB,bV,bM,cB,hName,aJ]
   refine aP fun V1 hV1=>?_
   simp! only [bJ,hName,aJ]
   refine ⟨cs,tls,t,t',p,_,_,.ref d,kvs,rfl,hMd,hT,hs,ht,hpl2,by rw [List.reverse_reverse];exact hC,fun kv hv=>?_⟩
   subst hV1
   refine aP fun V1 hV1=>?_
   simp! only [oP,aJ]
   intro r hr
   have hrd:r≠d:=fun z=>by rw [z,hMd] at hr;cases hr
   have hMd2:mup Mi r (Rn false) d=some (.dT kvs):=by rw [aK (Ne.symm hrd)];exact hMd
   simp! only [hMd2,aU,yK,aJ]
   refine ⟨big (by omega),?_⟩
   rw [nH hno,q9 hrd]
   subst hV1
   simp only [QK]
   refine cP (S:=⟨none,cs.map U.str⟩) (M1:=mup (mup Mi d (.dT (kvs++[(pk p,.ref r)]))) r (.dK [])) (fun R r=>by simp! only [jP,iV,aJ];exact r)
    (fun k τ Mj=>∃ (kv2:List (Key × U)) (y6:Option U),τ=[some (fD cs tls),some t.toU,some (.ref d),some (aU p),some t'.toU,some (eG kv),y6]/\Mj=mup (mup Mi d (.dT (kvs++[(pk p,.ref r)]))) r (.dK kv2)/\kv2.length<=k/\∀ c∈cs.take k,cD kv2 (Sum.inr c)=some (.int (cnt tls t' c))) ⟨[],z6,rfl,rfl,by simp,by simp⟩ nk ?_ ?_
   ·rintro k y τ Mj ek ⟨kv2,y6,rfl,rfl,hk2,hv2⟩
    have ek':(cs.map U.str)[k]?=some y:=ek
    rw [List.getElem?_map] at ek'
    cases hk:cs[k]? with
    | none=>rw [hk] at ek';cases ek'
    | some c =>
     rw [hk] at ek'
     cases ek'
     have hc:=List.mem_of_getElem? hk
     have hki:=(List.getElem?_eq_some_iff.mp hk).1
     have hMd3:mup (mup Mi d (.dT (kvs++[(pk p,.ref r)]))) r (.dK kv2) d=some (.dT (kvs++[(pk p,.ref r)])):=by rw [aK (Ne.symm hrd),aI]
     have lk:=t5 (M:=mup (mup Mi d (.dT (kvs++[(pk p,U.ref r)]))) r (.dK kv2)) (x:=.ref d) (kvs:=kvs++[(pk p,U.ref r)]) p hMd3
     rw [rW hno,if_pos rfl] at lk
     simp! only [hName,oP,jP,aJ]
     refine ⟨cs,tls,[],c,kv,topC tls t',rfl,hT,⟨by simp,fun s hs=>by cases List.mem_singleton.mp hs;exact hc⟩,by simp;omega,fun e he=>hv e he,?_⟩
     rw [List.nil_append,<- EG]
     simp! only [lk,kW,aJ]
     refine ⟨big (by omega),_,_,rfl,rfl,?_,fun c' hc'=>?_⟩
     ·have:=nD kv2 (Sum.inr c) (.int (cnt tls t' c));omega
     ·rw [nK]
      by_cases h:(Sum.inr c':Key)=Sum.inr c
      ·cases h;exact if_pos rfl
      ·rw [if_neg h]
       rw [List.take_add_one,hk] at hc'
       rcases List.mem_append.mp hc' with h2 | h2
       ·exact hv2 c' h2
       ·simp at h2;exact absurd (by rw [h2]) h
   ·rintro τ Mj ⟨kv2,y6,rfl,rfl,hk2,hv2⟩
    have hl3:(Src.mk none (cs.map U.str)).xs.length=cs.length:=by show (cs.map U.str).length=_;simp
    rw [hl3,List.take_length] at hv2
    refine ⟨_,_,F2 hr (Ne.symm hrd),kvs++[(pk p,eG kv2)],_,_,_,_,rfl,aI,hsub.mup hd,?_⟩
    rw [List.take_add_one,hj]
    exact FH hC hnew ht hv2
 ·rintro τ Mi ⟨kvs,z3,z4,z5,z6,rfl,hMd,hsub,hC⟩
  have hlen:(Src.mk none ((jB t []).map eB).reverse).xs.length=t.places.reverse.length:=by show (((jB t []).map eB).reverse).length=_;rw [List.length_reverse,List.length_map,yI,List.length_reverse,hpl]
  rw [hlen,List.take_length] at hC
  obtain ⟨t',kv2,h1,h2,h3⟩:=hC.2 [] (List.mem_reverse.mpr (mC t [] t (o5 t)))
  rw [o5] at h1;cases h1
  have lk1:k8 true Mi (.ref d) (.tup [])=some (cD kvs (pk [])):=t5 [] (x:=.ref d) hMd
  rw [h2] at lk1
  show V _ _
  subst hV
  simp! only [cT,lk1,aJ]
  exact ⟨_,M,hsub,.inl rfl,q kv2 h3⟩
noncomputable def Ew:c8:=fun us M Q=>∃ (cs:List Str) (tls:List Tl) (t:Tr),us=[fD cs tls,t.toU]/\dN cs tls/\t.ok/\t.size<=40/\Q (.bl true) M
theorem ED (F:cW K "_law_right" "_law_right" sZ f fd) (hm:mg "_law_right"=some (.ref f)) (mR:mg "isinstance"=none) (yG:mg "int"=none) (DD:mg "bool"=none) (EO:Callee P w K mg base 9 "_law_counts" Js []) (GR:Callee P w K mg base 44 "how_many" Ct []):Callee P w K mg base 45 "_law_right" Ew []:=by
 refine bF F hm mU (kP fun _ _ _ _ _ _ _ _=>rfl) (aD (aO 2 mU.nd (aR EO (aA (uv 0) (aA (uv 1) aB))))
 (aD (cS (c9 (aG (uv 0) aF)) (aN (k:=1000) 3 mU.nd)
 (aD (aO 4 mU.nd (aR GR (aA (uv 0) (aA (uv 1) (aA (uv 3) aB)))))
 (aE (b6 (m7.pt (C0 (jQ (dA Nj mR (aA (uv 4) (aA (NH (n:="bool") DD) aB)))) (C0 (wN (jQ (dA Nj mR (aA (uv 4) (aA (NH (n:="int") yG) aB))))) (DO (b8 pY (uv 4) (iP false mF (uv 2) (uv 3)))))))
 (aE (aV m8))
 bI))))
 (aE (aV m8)))) ?_
 rintro us M Q ⟨cs,tls,t,rfl,hT,hok,hs,q⟩
 refine ⟨rfl,?_⟩
 refine aP fun V hV=>?_
 simp! only [bJ,hName,aJ]
 refine ⟨cs,tls,t,rfl,hT,hok,hs,fun kv2 hv=>?_⟩
 subst hV
 refine aP fun V hV=>?_
 refine cP (S:=⟨none,cs.map U.str⟩) (M1:=M) (fun R r=>by simp! only [jP,iV,aJ];exact r)
  (fun i τ Mi=>∃ z3 z4:Option U,τ=[some (fD cs tls),some t.toU,some (eG kv2),z3,z4]/\Mi=M) ⟨none,none,rfl,rfl⟩ nk ?_ ?_
 ·rintro i x τ Mi e ⟨z3,z4,rfl,rfl⟩
  have e':(cs.map U.str)[i]?=some x:=e
  rw [List.getElem?_map] at e'
  cases hj:cs[i]? with
  | none=>rw [hj] at e';cases e'
  | some c =>
   rw [hj] at e'
   cases e'
   have hc:=List.mem_of_getElem? hj
   have lk:=nA (M:=Mi) c (jY Mi kv2)
   rw [hv c hc] at lk
   simp! only [hName,aJ]
   refine aP fun V1 hV1=>?_
   simp! only [bJ,hName,aJ]
   refine ⟨cs,tls,t,c,rfl,hT,hs,hc,?_⟩
   subst hV1
   simp! only [jI,cN,lk,aJ]
   exact ⟨_,_,rfl⟩
 ·rintro τ Mi ⟨z3,z4,rfl,rfl⟩
  subst hV
  simp! only [cT,aJ]
  exact aS q
theorem uF {ss:List Str}:∀ {p:Pt},p.okS ss->∀ s∈bQ p,s∈ss
 | .hole c,h,s,hs=>by simp [bQ,Pt.ends,gE] at hs;subst hs;exact h
 | .any,h,s,hs=>by simp [bQ,Pt.ends,gE] at hs
 | .fr _ _,h,s,hs=>by simp [bQ,Pt.ends,gE] at hs
 | .turn a,h,s,hs=>uF (p:=a) h s hs
 | .two _ a b,h,s,hs=>by
  have e:bQ (.two ‹_› a b)=bQ a++bQ b:=by simp [bQ,Pt.ends]
  rw [e] at hs
  rcases List.mem_append.mp hs with hs | hs
  ·exact uF (p:=a) h.1 s hs
  ·exact uF (p:=b) h.2 s hs
theorem Table.tab {ss:List Str} {tiles ts:List Tl} (h:Table ss tiles) (hm:ts.length<=14) (hs:∀ tl∈ts,tl.cls∈ss/\tl.pt.okS ss/\tl.pt.dep<=5):dN ss ts :=
 ⟨h.len,hm,fun tl ht=>(hs tl ht).1,fun tl ht=>uF (hs tl ht).2.1,fun tl ht=>(hs tl ht).2.2⟩
noncomputable def BI (i:It):PyData:=.tuple [.str i.sort,mH i.tree,.list (i.word.map PyData.int),.tuple (i.seen.map PyData.str),.int i.size,.int i.deep]
theorem DB (l:List Int):cV (l.map U.int)=some (l.map PyData.int):=by
 induction l with
 | nil=>simp [cV]
 | cons a r ih=>simp [cV,toD,ih]
theorem Dr (l:List Str):cV (l.map U.str)=some (l.map PyData.str):=by
 induction l with
 | nil=>simp [cV]
 | cons a r ih=>simp [cV,toD,ih]
theorem Fx (l:List Int):PyData.canLayAll0 (l.map PyData.int)=true:=by
 induction l with
 | nil=>simp [PyData.canLayAll0]
 | cons a r ih=>simp only [List.map_cons,PyData.canLayAll0,PyData.canLay0,ih];rfl
theorem EY (l:List Str) (h:∀ s∈l,PyData.strOk s=true):PyData.canLayAll0 (l.map PyData.str)=true:=by
 induction l with
 | nil=>simp [PyData.canLayAll0]
 | cons a r ih=>simp only [List.map_cons,PyData.canLayAll0,PyData.canLay0,h a List.mem_cons_self,ih fun x hx=>h x (List.mem_cons_of_mem _ hx)];rfl
theorem Po {ss:List Str} {tiles:List Tl} (hT:Table ss tiles) {its:List It} (hI:∀ i∈its,Inv ss tiles i) {M:aH} {Q:UK} (q:Q (.bl (!its.isEmpty)) M):tI true (.lst (its.map It.toU)) (.lst []) M Q:=by
 have hd:∀ l:List It,(∀ i∈l,Inv ss tiles i)->cV (l.map It.toU)=some (l.map BI)/\PyData.canLayAll0 (l.map BI)=true:=by
  intro l
  induction l with
  | nil=>intro _;exact ⟨by simp [cV],by simp [PyData.canLayAll0]⟩
  | cons a r ih =>
   intro h
   obtain ⟨h1,h2⟩:=ih fun x hx=>h x (List.mem_cons_of_mem _ hx)
   have ha:=h a List.mem_cons_self
   refine ⟨by simp [cV,toD,It.toU,BI,yA,AM,DB,Dr,h1],?_⟩
   simp only [List.map_cons,PyData.canLayAll0,h2,BI,PyData.canLay0,EK a.tree ha.tree,Fx,EY a.seen (fun s hs=>hT.ok s (ha.sub s hs)),hT.ok a.sort ha.srt,Bool.and_self]
 obtain ⟨h1,h2⟩:=hd its hI
 have e1:j2 M (.lst (its.map It.toU))=some (.list (its.map BI)):=by simp only [j2,toD,h1,Option.map_some]
 have e2:j2 M (.lst [])=some (.list []):=by simp [j2,toD,cV]
 show BK true _ _ M Q
 refine ⟨_,_,e1,e2,by simp only [PyData.canLay0];exact h2,by decide +kernel,by simp [PyData.depth,PyData.depthAll],?_⟩
 have e3:PyData.eqv (.list (its.map BI)) (.list [])=its.isEmpty:=by
  rw [PyData.eqv]
  cases its with
  | nil=>rfl
  | cons a l=>rfl
 simp only [e3,if_true]
 exact q
theorem N6 {α:Type} (l:List α) {i:Int} (h1:-(l.length:Int)<=i) (h2:i < 0):∃ x,cK l i=some x/\x∈l:=by
 have hlt:(i + l.length).toNat < l.length:=by omega
 refine ⟨l[(i + l.length).toNat],?_,List.getElem_mem hlt⟩
 unfold cK oV
 rw [if_neg (by omega),if_pos h1]
 exact List.getElem?_eq_getElem hlt
theorem RY {α:Type} (l:List α) (n:Nat):iB l none (some (n:Int))=l.take n:=by
 unfold iB
 simp only [HT.bW]
 rw [if_neg (by omega)]
 simp
theorem RS {α:Type} (l:List α) (n:Nat) (h:n<=l.length):iB l (some (n:Int)) none=l.drop n:=by
 have:=Af l l.length (l.length - n) rfl (by omega)
 rw [show ((l.length:Nat):Int) - ((l.length - n:Nat):Int)=(n:Int) by omega] at this
 rw [this];congr 1;omega
noncomputable def As:c8:=fun us M Q=>∃ ns:List Int,us=[.lst (ns.map .int)]/\ns.length<=63/\Q (.bl true) M
theorem RJ (F:cW K "law" "law" pO f fd) (Hv:mg "min"=none) (bK:mg "len"=none) (E6:Callee P w K mg base 5 "_law_table" F3 []) (Iv:Callee P w K mg base 2 "_law_rest" Jy []) (Fp:Callee P w K mg base 11 "_law_stack" Ga []) (y7:Callee P w K mg base 45 "_law_right" Ew []):mD P w K mg base zF 46 f fd ["script"] (lS K As):=by
 refine N9 F lO (fun us M Q h=>by obtain ⟨x,rfl,_⟩:=h;rfl) (aD (DK (aR E6 (aA (uv 0) aB)) (eJ (n:=2) (bB (aN (k:=1000) 1 lO.nd) (bB (aN (k:=1000) 2 lO.nd) dH))))
 (aD (aO 3 lO.nd (aR Iv (aA (uv 0) (aA (uv 2) aB))))
 (aD (aO 4 lO.nd (aR Fp (aA (aG (uv 1) aF) (aA (uv 3) (aA aF aB)))))
 (aD (aO 5 lO.nd (aY (aA cR (aA cR aB))))
 (aD (b6 (b8 pY (uv 4) (cX (own:=false) aB))
 (aE (aO 5 lO.nd (aG (aG (uv 4) (oT (lY aF) (bO (aG (uv 3) aF) (dA Sy Hv (aA aF (aA (dA dW bK (aA (uv 4) aB)) aB)))))) aF)))
 bI)
 (aD (b6 (wN (jQ (aR y7 (aA (uv 1) (aA (uv 5) aB)))))
 (aE (aV m8))
 bI)
 (aD (aO 6 lO.nd (aG (aG (uv 1) aF) (bO (aG (uv 3) aF) (dA dW bK (aA (aG (uv 1) aF) aB)))))
 (aD (aO 7 lO.nd (aY (aA cR (aA (aG (uv 6) aF) (aA (aG (uv 6) aF) (aA (bO (aG (uv 3) aF) aF) aB))))))
 (aD (aO 8 lO.nd (bO (aG (uv 3) aF) (bL (own:=false) (dA dW bK (aA (aG (uv 1) aF) aB)) aF)))
 (aE (aV (aR y7 (aA (aY (aA (aG (uv 1) aF) (aA (bL (own:=false) (bL (own:=false) (lM (own:=false) (aG (uv 1) aF) k0 (jU (uv 8))) (aY (aA (uv 7) aB))) (lM (own:=false) (aG (uv 1) aF) (jU (uv 8)) k0)) aB))) (aA (uv 5) aB)))))))))))))) ?_
 rintro us M Q ⟨ns,rfl,hl,q⟩
 refine aP fun V hV=>?_
 simp! only [bJ,bV,bM,cB,hName,aJ]
 refine ⟨ns,rfl,fun ss tiles u hT hu0 hu1=>?_⟩
 try simp! only [bJ,bV,bM,cB,hName,aJ]
 subst hV
 refine aP fun V hV=>?_
 simp! only [bJ,hName,aJ]
 refine ⟨ns,u,rfl,hl,hu0,hu1,fun cells h4 h70=>?_⟩
 subst hV
 refine aP fun V hV=>?_
 simp! only [bJ,hName,jP,aJ]
 refine ⟨ss,tiles,cells,rfl,hT,h70,fun its hI=>?_⟩
 subst hV
 refine aP fun V hV=>?_
 simp! only [bJ,hName,aJ]
 subst hV
 have hmany:=hT.many
 have hsome:0 < tiles.length:=List.length_pos_iff.mpr hT.some
 have c0:cK (cells.map U.int) 0=some (.int cells[0]):=hJ cells 0 (by omega)
 have c1:cK (cells.map U.int) 1=some (.int cells[1]):=hJ cells 1 (by omega)
 have c2:cK (cells.map U.int) 2=some (.int cells[2]):=hJ cells 2 (by omega)
 have c3:cK (cells.map U.int) 3=some (.int cells[3]):=hJ cells 3 (by omega)
 generalize cells[0]=v0 at c0
 generalize cells[1]=v1 at c1
 generalize cells[2]=v2 at c2
 generalize cells[3]=v3 at c3
 refine aP fun V hV=>?_
 have rest:∀ t:Tr,t.ok->t.size<=40->V [some (.lst (ns.map .int)),some (fD ss tiles),some (.int u),some (.lst (cells.map .int)),some (.lst (its.map It.toU)),some t.toU,none,none,none] M:=by
  intro t hok hsz
  have tab0:dN ss tiles:=hT.tab (by omega) fun tl ht=>⟨(hT.good tl ht).cls,(hT.good tl ht).pt,(hT.good tl ht).dep⟩
  subst hV
  refine aP fun V hV=>?_
  refine dY fun A B hA hB=>?_
  simp! only [aJ]
  refine ⟨ss,tiles,t,rfl,tab0,hok,hsz,?_⟩
  simp only [jM,Bool.not_true,Bool.false_eq_true,if_false]
  subst hB
  simp only [cN]
  subst hV
  refine aP fun V hV=>?_
  obtain ⟨tl,htl⟩:=kS tiles (v1 % (tiles.length:Int)) (Int.emod_nonneg _ (by omega)) (Int.emod_lt_of_pos _ (by omega))
  have hat:cK (tiles.map Tl.toU) (v1 % (tiles.length:Int))=some tl.toU:=by
   have h0:=Int.emod_nonneg v1 (show (tiles.length:Int)≠0 by omega)
   have h1:=Int.emod_lt_of_pos v1 (show 0 < (tiles.length:Int) by omega)
   obtain ⟨k,hk⟩:∃ k:Nat,v1 % (tiles.length:Int)=k:=⟨(v1 % (tiles.length:Int)).toNat,by omega⟩
   rw [hk] at htl ⊢
   refine fP ?_
   rw [List.getElem?_map]
   have:tiles[k]?=some tl:=by
    unfold cK oV at htl
    rw [if_pos (by omega),if_pos (by omega)] at htl
    simpa using htl
   rw [this];rfl
  have hmem:tl∈tiles:=nX htl
  simp! only [bJ,hName,c1,jP,hat,List.length_map,aJ]
  refine ⟨by omega,?_⟩
  subst hV
  refine aP fun V hV=>?_
  simp! only [bJ,hName,c2,iZ,aJ]
  refine ⟨by decide,?_⟩
  subst hV
  refine aP fun V hV=>?_
  simp! only [bJ,hName,c3,jP,List.length_map,aJ]
  refine ⟨by omega,?_⟩
  subst hV
  obtain ⟨k,hk,hkl⟩:∃ k:Nat,v3 % ((tiles.length:Int) + 1)=k/\k<=tiles.length:=by
   have h0:=Int.emod_nonneg v3 (show (tiles.length:Int) + 1≠0 by omega)
   have h1:=Int.emod_lt_of_pos v3 (show 0 < (tiles.length:Int) + 1 by omega)
   exact ⟨(v3 % ((tiles.length:Int) + 1)).toNat,by omega,by omega⟩
  simp! only [cT,jP,aJ]
  have l1:(tiles.map Tl.toU).length=tiles.length:=List.length_map _
  rw [hk,RY,RS _ _ (by rw [l1];exact hkl)]
  have lt:((tiles.map Tl.toU).take k).length=k:=by rw [List.length_take,l1];omega
  have ld:((tiles.map Tl.toU).drop k).length=tiles.length - k:=by rw [List.length_drop,l1]
  refine ⟨by simp only [lt,sizeLine];omega,by simp only [List.length_append,List.length_cons,List.length_nil,lt,ld,sizeLine];omega,?_⟩
  refine ⟨ss,tiles.take k++[⟨Str.ofString "twin",tl.cls,tl.pt,v2 % 1001⟩]++tiles.drop k,t,?_,hT.tab ?_ ?_,hok,hsz,?_⟩
  ·simp only [fD,List.map_append,List.map_take,List.map_drop,List.map_cons,List.map_nil,Tl.toU]
  ·simp only [List.length_append,List.length_take,List.length_drop,List.length_cons,List.length_nil];omega
  ·intro x hx
   have gd:∀ y∈tiles,y.cls∈ss/\y.pt.okS ss/\y.pt.dep<=5:=fun y ht=>⟨(hT.good y ht).cls,(hT.good y ht).pt,(hT.good y ht).dep⟩
   rcases List.mem_append.mp hx with hx | hx
   ·rcases List.mem_append.mp hx with hx | hx
    ·exact gd x (List.mem_of_mem_take hx)
    ·obtain rfl:=List.mem_singleton.mp hx
     exact gd tl hmem
   ·exact gd x (List.mem_of_mem_drop hx)
  ·exact aS q
 refine dY fun A B hA hB=>?_
 simp! only [aJ]
 refine Po hT hI ?_
 cases hE:its.isEmpty with
 | true =>
  simp! only [aJ]
  subst hB
  simp only [cN]
  exact rest (.name (Str.ofString "x")) ⟨by decide +kernel,by decide⟩ (by decide)
 | false =>
  have hne:its≠[]:=fun z=>by subst z;cases hE
  have hil:0 < (its.length:Int):=by have:=List.length_pos_iff.mpr hne;omega
  simp! only [aJ]
  subst hA
  have hm:∃ m:Int,(if (its.length:Int) < 2 then (its.length:Int) else 2)=m/\0 < m/\m<=its.length:=by
   split <;> exact ⟨_,rfl,by omega,by omega⟩
  obtain ⟨m,hme,hm0,hm1⟩:=hm
  have r0:=Int.emod_nonneg v0 (show m≠0 by omega)
  have r1:=Int.emod_lt_of_pos v0 hm0
  obtain ⟨iu,hat,hiu⟩:=N6 (its.map It.toU) (i:=-1 - v0 % m) (by rw [List.length_map];omega) (by omega)
  obtain ⟨it,hit,rfl⟩:=List.mem_map.mp hiu
  simp! only [bJ,hName,c0,List.length_map,aJ]
  rw [hme]
  refine ⟨hm0,it.toU,hat,?_⟩
  simp! only [rQ,aJ]
  exact rest it.tree (hI it hit).tree (by have:=(hI it hit).tsz;have:=(hI it hit).hi;omega)
end
theorem ER {K:PySem.W.Frag} {H:Hp} {M:aH}:∀ ns:List Int,aM K H M (ns.map U.int) (ns.map V.int)
 | []=>.nil
 | _ :: r=>.cons dI (ER r)
theorem Ko {K:PySem.W.Frag} {H:Hp} {a:Addr} {ns:List Int} {E:XK} (hl:ns.length<=63) (hS:eT K H a (ns.map V.int)):lS K As [.ref a] H (fun v _=>v=.bl true) E:=by
 refine ⟨[.lst (ns.map .int)],fun _=>none,fun u _=>u=.bl true,(fun a mo e=>by cases e),.cons ?_ .nil,⟨ns,rfl,hl,rfl⟩,fun u v M1 H1 _ _ ru q=>by subst q;exact ru.bl⟩
 simp only [aQ]
 refine ⟨a,_,rfl,?_,ER ns⟩
 rcases hS with h | h
 ·exact .inl ⟨trivial,h⟩
 ·exact .inr h
noncomputable def cA (K:PySem.W.Frag) (n:Str) (st:Stmt) (f:Addr):Prop:=∃ fd,PySem.W.nsIn K mainGlobals n=some (some (.ref f))/\cW K n n st f fd
theorem Tq {K:PySem.W.Frag} {n:Str} {st:Stmt} {f:Addr} {oc:Value} {od an:Option Addr} {osl:Array (Option Value)} {kV doc pm cdv ct:Value} (a:PySem.W.nsIn K mainGlobals n=some (some (.ref f))) (l:K.lookup f=some ⟨oc,od,.func (PySem.W.fnOf n n (kY st) (iQ st) (aT st) .none kV doc pm an cdv ct),osl⟩) (c:PySem.W.codeIn K cdv n=true) (k:PySem.W.keepIn K (.ref f)=true):cA K n st f:=⟨_,a,Lc l c k⟩
open PyProof.Rows in
theorem all_mk {l:PySem.W.OpenLaw} {w:World} {K:PySem.W.Frag} {h:Heap} {mg:Str->Option Value} {fa f0 f1 f2 f3 f4 f5 f6 f7 f8 f9 f10 f11 f12 f13 f14 f15 f16 f17 f18 f19 f20 f21 f22 f23 f24 f25 f26 f27 f28 f29 f30 f31 f32 f33 f34 f35 f36 f37 f38 f39 f40 f41 f42 f43 f44 f45:Addr} (X:K.In h) (G:h.Ns mainGlobals mg) (hfa:mg "law"=some (.ref fa))
  (a0:cA K "parts_of" u5 f0) (a1:cA K "places_of" j7 f1) (a2:cA K "shape_at" uH f2) (a3:cA K "lies_on_leaf" nF f3) (a4:cA K "is_pass" wZ f4) (a5:cA K "parts" Bw f5) (a6:cA K "places" Ac f6) (a7:cA K "tree_at" xR f7) (a8:cA K "holes" BA f8) (a9:cA K "lies" Al f9) (a10:cA K "tiles_at" vJ f10) (a11:cA K "laid_tiles" qS f11) (a12:cA K "pass_chains" pF f12) (a13:cA K "all_chains" qQ f13) (a14:cA K "first_counts" nI f14) (a15:cA K "count_covers" nT f15) (a16:cA K "how_many" u6 f16) (a17:cA K "_law_mixed" sW f17) (a18:cA K "_law_draws" tR f18) (a19:cA K "_law_cell_at" o8 f19) (a20:cA K "_law_great" sP f20) (a21:cA K "_law_name" vC f21) (a22:cA K "_law_leaf" u3 f22) (a23:cA K "_law_pattern" pD f23) (a24:cA K "_law_ends" pN f24) (a25:cA K "_law_laid" pT f25) (a26:cA K "_law_borne" sF f26) (a27:cA K "_law_word" uG f27) (a28:cA K "_law_tile" vL f28) (a29:cA K "_law_plain" sG f29) (a30:cA K "_law_table" tK f30) (a31:cA K "_law_rest" vT f31) (a32:cA K "_law_bulk" pR f32) (a33:cA K "_law_asks" uO f33) (a34:cA K "_law_fits" uY f34) (a35:cA K "_law_deep" vO f35) (a36:cA K "_law_lay" wK f36) (a37:cA K "_law_lay_one" pH f37) (a38:cA K "_law_stack" tL f38) (a39:cA K "_law_on" vR f39) (a40:cA K "_law_places" qO f40) (a41:cA K "_law_ways" pW f41) (a42:cA K "_law_tops" vK f42) (a43:cA K "_law_counts" qM f43) (a44:cA K "_law_right" sZ f44)
  {od an:Option Addr} {sl:Array (Option Value)} {oc kV dc pm cd ct:Value} (aL:PySem.W.nsIn K mainGlobals "law"=some (some (.ref f45))) (lL:K.lookup f45=some ⟨oc,od,.func (PySem.W.fnOf "law" "law" (kY pO) (iQ pO) (aT pO) .none kV dc pm an cd ct),sl⟩) (cL:PySem.W.codeIn K cd "law"=true) (kL:PySem.W.keepIn K (.ref f45)=true)
  {dt0:Addr} (ta0:PySem.W.nsIn K mainGlobals "SIGNS"=some (some (.ref dt0))) (tb0:KTD.tabLook KTD.flatLooks (fun b=>K.lookup b) dt0 (BL jE)=true) (tc0:KTD.hashesOf (fun b=>K.lookup b) dt0=(BL jE).map fun p=>(PySem.strKind l.prog w).hash p.1)
  (z0:PySem.W.nsIn K mainGlobals "len"=some none) (z1:PySem.W.nsIn K mainGlobals "isinstance"=some none) (z2:PySem.W.nsIn K mainGlobals "max"=some none) (z3:PySem.W.nsIn K mainGlobals "range"=some none) (z4:PySem.W.nsIn K mainGlobals "abs"=some none) (z5:PySem.W.nsIn K mainGlobals "tuple"=some none) (z6:PySem.W.nsIn K mainGlobals "list"=some none) (z7:PySem.W.nsIn K mainGlobals "int"=some none) (z8:PySem.W.nsIn K mainGlobals "bool"=some none) (z9:PySem.W.nsIn K mainGlobals "all"=some none) (z10:PySem.W.nsIn K mainGlobals "zip"=some none) (z11:PySem.W.nsIn K mainGlobals "enumerate"=some none) (z12:PySem.W.nsIn K mainGlobals "sum"=some none) (z13:PySem.W.nsIn K mainGlobals "reversed"=some none) (z14:PySem.W.nsIn K mainGlobals "min"=some none)
  : ∃ fd:FuncData,(∀ (s:Shared) (v:Value),BindsTo s fd ⟨[v],[]⟩ [("script",v)])/\∀ base:Heap,K.In base->base.Ns mainGlobals mg->mD l.prog w K mg base zF 46 fa fd ["script"] (lS K As):=by
 have V:∀ {x:Str} {f:Addr},PySem.W.nsIn K mainGlobals x=some (some (.ref f))->mg x=some (.ref f):=PySem.W.mg_of X G
 have N:∀ {x:Str},PySem.W.nsIn K mainGlobals x=some none->mg x=none:=PySem.W.mg_none_of X G
 have e:=hfa.symm.trans (V aL)
 cases e
 have SE:=Lc (st:=pO) lL cL kL
 obtain ⟨_,u4,Hy⟩:=a0;have u4:=V u4
 obtain ⟨_,n5,zD⟩:=a1;have n5:=V n5
 obtain ⟨_,uP,GO⟩:=a2;have uP:=V uP
 obtain ⟨_,nS,Bm⟩:=a3;have nS:=V nS
 obtain ⟨_,wX,Kf⟩:=a4;have wX:=V wX
 obtain ⟨_,Bu,NW⟩:=a5;have Bu:=V Bu
 obtain ⟨_,zV,Lv⟩:=a6;have zV:=V zV
 obtain ⟨_,xS,IP⟩:=a7;have xS:=V xS
 obtain ⟨_,BG,PN⟩:=a8;have BG:=V BG
 obtain ⟨_,D7,P8⟩:=a9;have D7:=V D7
 obtain ⟨_,t8,IE⟩:=a10;have t8:=V t8
 obtain ⟨_,qT,Dz⟩:=a11;have qT:=V qT
 obtain ⟨_,o6,CO⟩:=a12;have o6:=V o6
 obtain ⟨_,qG,Di⟩:=a13;have qG:=V qG
 obtain ⟨_,nW,Bs⟩:=a14;have nW:=V nW
 obtain ⟨_,nM,BF⟩:=a15;have nM:=V nM
 obtain ⟨_,vU,Iu⟩:=a16;have vU:=V vU
 obtain ⟨_,sE,E5⟩:=a17;have sE:=V sE
 obtain ⟨_,sV,E4⟩:=a18;have sV:=V sV
 obtain ⟨_,pB,CW⟩:=a19;have pB:=V pB
 obtain ⟨_,tD,Fw⟩:=a20;have tD:=V tD
 obtain ⟨_,uS,GX⟩:=a21;have uS:=V uS
 obtain ⟨_,uN,HN⟩:=a22;have uN:=V uN
 obtain ⟨_,pE,CS⟩:=a23;have pE:=V pE
 obtain ⟨_,uU,HM⟩:=a24;have uU:=V uU
 obtain ⟨_,vV,Iy⟩:=a25;have vV:=V vV
 obtain ⟨_,sY,Fg⟩:=a26;have sY:=V sY
 obtain ⟨_,vZ,GP⟩:=a27;have vZ:=V vZ
 obtain ⟨_,vM,Hu⟩:=a28;have vM:=V vM
 obtain ⟨_,tO,Fz⟩:=a29;have tO:=V tO
 obtain ⟨_,tN,FD⟩:=a30;have tN:=V tN
 obtain ⟨_,uA,Ib⟩:=a31;have uA:=V uA
 obtain ⟨_,u1,Hw⟩:=a32;have u1:=V u1
 obtain ⟨_,uL,HJ⟩:=a33;have uL:=V uL
 obtain ⟨_,u0,IB⟩:=a34;have u0:=V u0
 obtain ⟨_,uB,Ir⟩:=a35;have uB:=V uB
 obtain ⟨_,wW,Jg⟩:=a36;have wW:=V wW
 obtain ⟨_,o9,CV⟩:=a37;have o9:=V o9
 obtain ⟨_,sT,Fe⟩:=a38;have sT:=V sT
 obtain ⟨_,Ad,Ll⟩:=a39;have Ad:=V Ad
 obtain ⟨_,qR,ES⟩:=a40;have qR:=V qR
 obtain ⟨_,vI,Ha⟩:=a41;have vI:=V vI
 obtain ⟨_,u2,HS⟩:=a42;have u2:=V u2
 obtain ⟨_,qI,DA⟩:=a43;have qI:=V qI
 obtain ⟨_,sU,Fm⟩:=a44;have sU:=V sU
 have Bp:=V ta0
 have Bz:AW l.prog w K dt0 jE:=tab_of (by decide +kernel) tb0 tc0
 have bK:=N z0
 have mR:=N z1
 have mZ:=N z2
 have dB:=N z3
 have CZ:=N z4
 have j6:=N z5
 have tY:=N z6
 have yG:=N z7
 have DD:=N z8
 have yH:=N z9
 have pL:=N z10
 have bH:=N z11
 have l5:=N z12
 have iG:=N z13
 have Hv:=N z14
 refine ⟨PySem.W.fnOf "law" "law" (kY pO) (iQ pO) (aT pO) .none kV dc pm an cd ct,fun s v=>.of_eq rfl,fun base _ _=>?_⟩
 have c0:=E9 (P:=l.prog) (w:=w) (base:=base) Hy u4 Bz Bp
 have c1:=L6 NW Bu c0
 have c2:=Av (P:=l.prog) (w:=w) (base:=base) Bm nS
 have c3:=Dv P8 D7 yH pL c2 c0 c1 6
 have b0:=AN zD n5 bH c0 6
 have b9:=zN zD n5 bH c0 40
 have bp:=Jr Lv zV b9
 have b1:=E8 GO uP c0
 have b2:=Im IP xS b1
 have b3:=L0 PN BG b0 b1
 have b4:=Ii (P:=l.prog) (w:=w) (base:=base) Kf wX
 have h0:=Fo IE t8 bH b2 c3 b3
 have h1:=CN (Mc Dz qT bp h0 b4)
 have h2:=Br (KQ CO o6 bH b4)
 have h3:=CP (J1 Di qG h2)
 have h4:=Bf (Jp (P:=l.prog) (w:=w) (base:=base) Bs nW)
 have h5:=AF (Ja BF nM iG tY l5 bK h4)
 have h6:=Fh Iu vU h1 h3 h5
 have d0:=LN (P:=l.prog) (w:=w) (base:=base) E5 sE
 have d1:=Lw E4 sV CZ dB d0
 have d2:=Mt (P:=l.prog) (w:=w) (base:=base) Fw tD
 have d3:=OP (P:=l.prog) (w:=w) (base:=base) GX uS
 have d4:=Pw HN uN bK mZ d2
 have d5:=HZ CS pE bK mZ yG d4
 have d7:=Df (P:=l.prog) (w:=w) (base:=base) HM uU bH 6
 have d8:=B5 (P:=l.prog) (w:=w) (base:=base) Iy vV j6 6
 have d9:=JB Fg sY bH d3 d0 d2
 have e0:=Ov (P:=l.prog) (w:=w) (base:=base) GP vZ
 have e1:=Px Hu vM bK d1 d5 e0
 have e2:=Na (P:=l.prog) (w:=w) (base:=base) Fz tO
 have e3:=Hj (P:=l.prog) (w:=w) (base:=base) CW pB bK
 have e4:=MA FD tN dB j6 d1 e3 e0 e1 e2
 have e5:=Pl Ib uA tY bK e3
 have g0:=ET (P:=l.prog) (w:=w) (base:=base) Hw u1 l5 6
 have g1:=Pz HJ uL d7
 have g2:=N8 (P:=l.prog) (w:=w) (base:=base) IB u0 bK pL
 have g3:=NV Ir uB bK mZ d7
 have g4:=RB Jg wW bK l5 g2 g0 g3 d7 d9 d8
 have g5:=G4 CV o9 bK dB g4
 have g6:=LU Fe sT bK dB g1 d1 g4 g5
 have g7:=Kk (P:=l.prog) (w:=w) (base:=base) Ll Ad dB bK 6
 have g8:=D4 (P:=l.prog) (w:=w) (base:=base) Ha vI 6
 have g9:=FG (My HS u2 g7 d7)
 have i0:=CG (P:=l.prog) (w:=w) (base:=base) ES qR bK iG dB
 have i1:=CD DA qI iG i0 g9 g8
 have i2:=ED Fm sU mR yG DD i1 h6
 exact RJ SE Hv bK e4 e5 g6 i2
theorem walk {l:PySem.W.OpenLaw} {q:Program} {loose:List Str} {XP:(Str->Option Value)->Heap->Prop} {YP:World->Heap->Prop} {d:DefRec} {K:Params->PySem.W.Frag} (hn:l.most=some 63) (hdf:d.params.defaults=[])
  (hY:∀ (w:World) (h:Heap),YP w h->(K w.params).In h)
  (F:∀ (w:World) (mg:Str->Option Value) (fa:Addr) (h:Heap),(K w.params).In h->h.Ns mainGlobals mg->mg d.name=some (.ref fa) ->
   ∃ fd:FuncData,(∀ (s:Shared) (u:Value),BindsTo s fd ⟨[u],[]⟩ [("script",u)])/\∀ base:Heap,(K w.params).In base->base.Ns mainGlobals mg->mD l.prog w (K w.params) mg base zF 46 fa fd ["script"] (lS (K w.params) As)) :
  PySem.W.WalkO q loose XP YP l.row.toRowW d [] (fun f vs=>PySem.call f vs) :=
 L2.PB (n:=63) (k:=46) (x:="script") (CX:=fun _=>zF) (sp:=fun w=>lS (K w.params) As) hn (by decide) hdf ⟨rfl,by decide,by decide⟩ hY F (fun _ _ a ns hl _ hS=>Ko hl hS) fun _ _ _ _ _ z=>z
end K25
namespace PySem.W.Fast
noncomputable def tw10069126578544282231:=0
noncomputable def tw10092340505568647632:=0
noncomputable def tw10093830470755003479:=0
noncomputable def tw10100788660462105775:=0
noncomputable def tw10113150369314917223:=0
noncomputable def tw10143375378011818398:=0
noncomputable def tw10160849122473349962:=0
noncomputable def tw10249467150663223876:=0
noncomputable def tw10254894305319969262:=0
noncomputable def tw1050378530915649754:=0
noncomputable def tw10507858349493215054:=0
noncomputable def tw10533835706693182677:=0
noncomputable def tw10572093997227269479:=0
noncomputable def tw10631653721434426282:=0
noncomputable def tw10712529031022699422:=0
noncomputable def tw10715463688002758658:=0
noncomputable def tw10860298099799241768:=0
noncomputable def tw10862646710265988641:=0
noncomputable def tw10984397172624407438:=0
noncomputable def tw11053014154138590711:=0
noncomputable def tw11089943024001207600:=0
noncomputable def tw1120127344891196420:=0
noncomputable def tw11282967051009582621:=0
noncomputable def tw11342139757904815025:=0
noncomputable def tw11431688986666989222:=0
noncomputable def tw11452034627435128592:=0
noncomputable def tw11483578865593510615:=0
noncomputable def tw11540024495165416438:=0
noncomputable def tw11721651592162930148:=0
noncomputable def tw11745715236032703657:=0
noncomputable def tw11792840118928203641:=0
noncomputable def tw11890607224475264862:=0
noncomputable def tw12099780760034342478:=0
noncomputable def tw12114592217163759068:=0
noncomputable def tw12180851975077564559:=0
noncomputable def tw12199440172417866176:=0
noncomputable def tw12220058482656207531:=0
noncomputable def tw12441147186844819606:=0
noncomputable def tw12446419993536468072:=0
noncomputable def tw12521883749645801160:=0
noncomputable def tw12533226580082983206:=0
noncomputable def tw12652499696496739197:=0
noncomputable def tw12694230054055241926:=0
noncomputable def tw12899069994458352928:=0
noncomputable def tw1290304470525776066:=0
noncomputable def tw12970501814159999546:=0
noncomputable def tw13073087133964859069:=0
noncomputable def tw13185895483454742195:=0
noncomputable def tw13282389174690091340:=0
noncomputable def tw13289190673356805987:=0
noncomputable def tw13312616010799683050:=0
noncomputable def tw13326209176139085722:=0
noncomputable def tw13327284482598125507:=0
noncomputable def tw13387204350494481796:=0
noncomputable def tw13526839905234324129:=0
noncomputable def tw13596218136871800682:=0
noncomputable def tw13608348491241833986:=0
noncomputable def tw13616433777946266252:=0
noncomputable def tw13755582028821313874:=0
noncomputable def tw13876643658770293369:=0
noncomputable def tw13895681141089857494:=0
noncomputable def tw139006873304538628:=0
noncomputable def tw13932808924227730432:=0
noncomputable def tw1394090804249660679:=0
noncomputable def tw13964279852457749423:=0
noncomputable def tw14140677328069400068:=0
noncomputable def tw14191609038990595508:=0
noncomputable def tw14244592924301121436:=0
noncomputable def tw14262169913987319089:=0
noncomputable def tw14294769638654785837:=0
noncomputable def tw14334413342906960809:=0
noncomputable def tw1434336030138662694:=0
noncomputable def tw1437679600103946118:=0
noncomputable def tw14428324062253992748:=0
noncomputable def tw14433688531600718074:=0
noncomputable def tw1443894320416841431:=0
noncomputable def tw14519064253541724607:=0
noncomputable def tw14522208984021727933:=0
noncomputable def tw14542892671178449294:=0
noncomputable def tw14663627824146932432:=0
noncomputable def tw1475490628005499329:=0
noncomputable def tw14803443659999339151:=0
noncomputable def tw1496580854898262191:=0
noncomputable def tw1503108613906605430:=0
noncomputable def tw15071349739543219768:=0
noncomputable def tw15081542351610411298:=0
noncomputable def tw15149417888256367404:=0
noncomputable def tw15168733999128065609:=0
noncomputable def tw1517818178986813531:=0
noncomputable def tw15271931946785240951:=0
noncomputable def tw15417821002057700799:=0
noncomputable def tw15436220215335130084:=0
noncomputable def tw15499313473682122454:=0
noncomputable def tw15541051315523236862:=0
noncomputable def tw15574979819301746272:=0
noncomputable def tw15602470988271694339:=0
noncomputable def tw15670184408642369182:=0
noncomputable def tw15679956184288608562:=0
noncomputable def tw15733753664405214740:=0
noncomputable def tw15803814832933775670:=0
noncomputable def tw15821299681655193831:=0
noncomputable def tw1583564083446272857:=0
noncomputable def tw15861406713239065816:=0
noncomputable def tw15954198611085948809:=0
noncomputable def tw16016102054339106570:=0
noncomputable def tw16061824413388628560:=0
noncomputable def tw16179513188980927823:=0
noncomputable def tw16208216454213952219:=0
noncomputable def tw16375294992926627746:=0
noncomputable def tw16462293819480296201:=0
noncomputable def tw16583356768117004237:=0
noncomputable def tw16679297186995095805:=0
noncomputable def tw1683277389518461023:=0
noncomputable def tw16984259462661494429:=0
noncomputable def tw17062634090893029505:=0
noncomputable def tw17090180632473164079:=0
noncomputable def tw17137688623029687601:=0
noncomputable def tw17217283697312789549:=0
noncomputable def tw17218590848704054695:=0
noncomputable def tw17275361089254596105:=0
noncomputable def tw17290774379117553312:=0
noncomputable def tw17338565528903192354:=0
noncomputable def tw17419834520161126223:=0
noncomputable def tw17488649175792644030:=0
noncomputable def tw17493079264484497141:=0
noncomputable def tw17534577246250287389:=0
noncomputable def tw17572835530914826424:=0
noncomputable def tw17596393172185647528:=0
noncomputable def tw17630607937720753306:=0
noncomputable def tw17862593741151739519:=0
noncomputable def tw17909649730973019291:=0
noncomputable def tw17928633602437587331:=0
noncomputable def tw17996293866609019446:=0
noncomputable def tw18066067791951889135:=0
noncomputable def tw18093761206440758885:=0
noncomputable def tw18164186281720070068:=0
noncomputable def tw18315770574699149827:=0
noncomputable def tw18356896241917061774:=0
noncomputable def tw18362104957632687405:=0
noncomputable def tw18395670595636909861:=0
noncomputable def tw1880509880401922642:=0
noncomputable def tw1886715390544763600:=0
noncomputable def tw1969622945432564559:=0
noncomputable def tw2015644780893848430:=0
noncomputable def tw2094981072970927229:=0
noncomputable def tw216167532051561161:=0
noncomputable def tw2241123859021963587:=0
noncomputable def tw2261172390369607748:=0
noncomputable def tw2352661269513249498:=0
noncomputable def tw2386273645504784876:=0
noncomputable def tw2531083301461100660:=0
noncomputable def tw2625119856999068451:=0
noncomputable def tw264688944319198120:=0
noncomputable def tw267297415835886636:=0
noncomputable def tw2694107018850930142:=0
noncomputable def tw27455257586684967:=0
noncomputable def tw2892061389931465498:=0
noncomputable def tw2933573932054205866:=0
noncomputable def tw2987860196561066506:=0
noncomputable def tw3038614434894336991:=0
noncomputable def tw3103451473451247366:=0
noncomputable def tw311798316351322280:=0
noncomputable def tw3143763126247067562:=0
noncomputable def tw3162244766315725004:=0
noncomputable def tw3178256047578406947:=0
noncomputable def tw3246825937331349234:=0
noncomputable def tw3262172582287771048:=0
noncomputable def tw3461636865659933735:=0
noncomputable def tw362450847454802564:=0
noncomputable def tw372621155434187870:=0
noncomputable def tw3747240810814436163:=0
noncomputable def tw3811660195891480712:=0
noncomputable def tw385192916521872598:=0
noncomputable def tw3852833607990053372:=0
noncomputable def tw3857982015214545737:=0
noncomputable def tw3886760366575673614:=0
noncomputable def tw3959951404898372019:=0
noncomputable def tw398378423086773781:=0
noncomputable def tw4078415986075440067:=0
noncomputable def tw4103230051367199509:=0
noncomputable def tw4186678411844741754:=0
noncomputable def tw4201035552732912591:=0
noncomputable def tw4209725730151446969:=0
noncomputable def tw4218806231710094743:=0
noncomputable def tw4230625359396223354:=0
noncomputable def tw4253380086781434138:=0
noncomputable def tw4270611480212784000:=0
noncomputable def tw4286108819553168273:=0
noncomputable def tw4328638777423250745:=0
noncomputable def tw4502421390448791898:=0
noncomputable def tw4526439464009125868:=0
noncomputable def tw4545116193800261224:=0
noncomputable def tw4614602690713934114:=0
noncomputable def tw4640899162947976457:=0
noncomputable def tw4666230171994616390:=0
noncomputable def tw4716383817872889155:=0
noncomputable def tw4790744627870156720:=0
noncomputable def tw490476429619470855:=0
noncomputable def tw5130299027878278244:=0
noncomputable def tw5303369075306273881:=0
noncomputable def tw5313775492650415268:=0
noncomputable def tw5726978510374509536:=0
noncomputable def tw5762670072166400327:=0
noncomputable def tw5847766710494247730:=0
noncomputable def tw5858339972064000938:=0
noncomputable def tw5968817242131142167:=0
noncomputable def tw6150160286879902924:=0
noncomputable def tw6198263878387811640:=0
noncomputable def tw6230765182620712259:=0
noncomputable def tw6233173873457326954:=0
noncomputable def tw6289169486906136868:=0
noncomputable def tw6341519645574502166:=0
noncomputable def tw6400291434807437722:=0
noncomputable def tw6483106124880273882:=0
noncomputable def tw6489364726091548543:=0
noncomputable def tw650671019163125464:=0
noncomputable def tw6520213614250437878:=0
noncomputable def tw6600024762710028993:=0
noncomputable def tw662216119945214893:=0
noncomputable def tw6638093309718813001:=0
noncomputable def tw6671777493339813198:=0
noncomputable def tw671150471243997619:=0
noncomputable def tw6734539998933963118:=0
noncomputable def tw6741623880383490836:=0
noncomputable def tw6767072730046951779:=0
noncomputable def tw6823211817385202212:=0
noncomputable def tw6829238932364309617:=0
noncomputable def tw6840120584070392969:=0
noncomputable def tw685314122084691643:=0
noncomputable def tw6898074870569031062:=0
noncomputable def tw6934429399371397029:=0
noncomputable def tw6938503291065758164:=0
noncomputable def tw7124753830581230635:=0
noncomputable def tw7252830849142683752:=0
noncomputable def tw7391068448683138645:=0
noncomputable def tw7420867210331445920:=0
noncomputable def tw7453883228953445066:=0
noncomputable def tw7566975636736193833:=0
noncomputable def tw766961336532561772:=0
noncomputable def tw7774668350012865991:=0
noncomputable def tw7922812037502386607:=0
noncomputable def tw7974353940158056197:=0
noncomputable def tw7982928099012904693:=0
noncomputable def tw8104581460444975643:=0
noncomputable def tw8120702717206953546:=0
noncomputable def tw8396193063994824870:=0
noncomputable def tw8487807627829272102:=0
noncomputable def tw8793304994453482160:=0
noncomputable def tw8938959234803530121:=0
noncomputable def tw8941757402781926935:=0
noncomputable def tw8947335586531472002:=0
noncomputable def tw897920946945028529:=0
noncomputable def tw8997024267323070815:=0
noncomputable def tw9027977752586754822:=0
noncomputable def tw9069755020730729394:=0
noncomputable def tw9081542310371894053:=0
noncomputable def tw914869491514866134:=0
noncomputable def tw9210259622545691409:=0
noncomputable def tw9298601961118627198:=0
noncomputable def tw9305930028822745717:=0
noncomputable def tw939646117776152427:=0
noncomputable def tw9423259456565670442:=0
noncomputable def tw9440262375982123894:=0
noncomputable def tw9441574282221817342:=0
noncomputable def tw9492874990056277304:=0
noncomputable def tw9532420651836336444:=0
noncomputable def tw9716513180470497984:=0
noncomputable def tw9816431374711522613:=0
noncomputable def tw9824455331946841391:=0
noncomputable def tw9904157088008224278:=0
noncomputable def tw9921242596952000925:=0
noncomputable def tw9934627195331428829:=0
noncomputable def tw9934765720492937009:=0
noncomputable def tw9994900712968160825:=0
end PySem.W.Fast
open PySem PySem.W PyProof.Rows
set_option maxRecDepth 100000 in
set_option maxHeartbeats 0 in
theorem PySem.Challenge.cw_rowsmith_k25_how_many_covers_holds : PySem.Challenge.rw_rowsmith_k25_how_many_covers.Holds := by
 w_on;o_law;k_head;(case hw=>w_witness2)
 k_fill
 refine K25.walk (l:=PySem.Challenge.rw_rowsmith_k25_how_many_covers) rfl rfl (fun w h Y=>PySem.W.kIn_of Y) ?F
 case F =>
  intro w mg fa h KX G hmg
  refine' K25.all_mk KX G hmg ?a0 ?a1 ?a2 ?a3 ?a4 ?a5 ?a6 ?a7 ?a8 ?a9 ?a10 ?a11 ?a12 ?a13 ?a14 ?a15 ?a16 ?a17 ?a18 ?a19 ?a20 ?a21 ?a22 ?a23 ?a24 ?a25 ?a26 ?a27 ?a28 ?a29 ?a30 ?a31 ?a32 ?a33 ?a34 ?a35 ?a36 ?a37 ?a38 ?a39 ?a40 ?a41 ?a42 ?a43 ?a44 ?aL ?lL ?cL ?kL ?ta0 ?tb0 ?tc0 ?z0 ?z1 ?z2 ?z3 ?z4 ?z5 ?z6 ?z7 ?z8 ?z9 ?z10 ?z11 ?z12 ?z13 ?z14
  all_goals first | (refine' K25.Tq ?a ?l ?c ?k;(case a=>k_is);(case l=>k_is);(case c=>k_is);(case k=>k_is)) | skip
  (case aL=>k_is)
  (case lL=>k_is)
  (case cL=>k_is)
  (case kL=>k_is)
  (case ta0=>k_is)
  (case tb0=>kernel_rfl)
  (case tc0=>kernel_rfl)
  (case z0=>k_is)
  (case z1=>k_is)
  (case z2=>k_is)
  (case z3=>k_is)
  (case z4=>k_is)
  (case z5=>k_is)
  (case z6=>k_is)
  (case z7=>k_is)
  (case z8=>k_is)
  (case z9=>k_is)
  (case z10=>k_is)
  (case z11=>k_is)
  (case z12=>k_is)
  (case z13=>k_is)
  (case z14=>k_is)
#print axioms PySem.Challenge.cw_rowsmith_k25_how_many_covers_holds